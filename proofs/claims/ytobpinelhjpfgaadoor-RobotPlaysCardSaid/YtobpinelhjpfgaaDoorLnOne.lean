/-
  Layer 14, plain facts: a packet's bits and bytes; bytes are a packet's in one way at most; how it is read off them.
  Layer 14: Lay.
  Layer 14: bytes are asked for one by one; Take.
  Layer 14: Take.
  Layer 14: Take, its walk.
-/
import Derived.Test.YtobpinelhjpfgaaDoorBtSev
import Derived.Test.YtobpinelhjpfgaaDoorCkThr
import Derived.Test.YtobpinelhjpfgaaDoorCkTwo
import Derived.Laws.MakeOwn
import Derived.Laws.OwnMore
import Derived.Laws.ResultCell
set_option linter.unusedVariables false
set_option maxRecDepth 100000
section
namespace Go.Proofs.YtobpinelhjpfgaaDoor
namespace Ln
open Bp Ck
/-- A packet's bits. -/
def pb (h : Bool) (n : Nat) (d : List Nat) : List Bool := bitsOf (bn h) 1 ++ countBits n ++ bitsZ d
/-- A packet's bytes. -/
def play (h : Bool) (n : Nat) (d : List Nat) : List Nat := frm (pack (pb h n d))
/-- A packet that can be laid. -/
structure Ok (h : Bool) (n : Nat) (d : List Nat) : Prop where
  num : n + 1 < 18446744073709551616
  few : d.length ≤ 200
  none_ : h = true → d = []
  byte : ∀ z ∈ d, z ≤ 255
/-- The bytes are that packet's. -/
def Is (b : List Nat) (h : Bool) (n : Nat) (d : List Nat) : Prop := Ok h n d ∧ b = play h n d
/-- What a frame has is that packet's. -/
def Pk (zs : List Nat) (h : Bool) (n : Nat) (d : List Nat) : Prop := Ok h n d ∧ zs = pack (pb h n d)
theorem pb_length (h : Bool) (n : Nat) (d : List Nat) : (pb h n d).length = 2 + 2 * kz n + 8 * d.length := by
  unfold pb
  rw [List.length_append, List.length_append, bitsOf_length, countBits_length, bitsZ_len]; omega
theorem bit1 (h : Bool) : bitsOf (bn h) 1 = [h] := by cases h <;> decide
theorem Ok.kz {h : Bool} {n : Nat} {d : List Nat} (hh : Ok h n d) : Bp.kz n ≤ 63 := kz_63 n hh.num
theorem Ok.room {h : Bool} {n : Nat} {d : List Nat} (hh : Ok h n d) : (pack (pb h n d)).length ≤ 300 := by
  rw [pack_length, pb_length]
  have := hh.kz
  have := hh.few
  unfold nb; omega
theorem pack_le (bs : List Bool) : ∀ z ∈ pack bs, z ≤ 255 := pack_byte bs
theorem play_len (h : Bool) (n : Nat) (d : List Nat) : (play h n d).length = nb (2 + 2 * kz n + 8 * d.length) + 4 := by
  unfold play; rw [frm_len, pack_length, pb_length]
theorem Ok.size {h : Bool} {n : Nat} {d : List Nat} (hh : Ok h n d) : 0 < (play h n d).length ∧ (play h n d).length ≤ 300 := by
  rw [play_len]
  have := hh.kz
  have := hh.few
  unfold nb; omega
theorem Ok.play_byte {h : Bool} {n : Nat} {d : List Nat} (hh : Ok h n d) : ∀ z ∈ play h n d, z ≤ 255 := frm_byte _ (pack_byte _) (by have := hh.room; omega)
theorem Is.pk {h : Bool} {n : Nat} {d : List Nat} {b : List Nat} (hi : Is b h n d) : isFrm b = true ∧ Pk (inn b) h n d := by
  obtain ⟨h1, rfl⟩ := hi
  refine ⟨isFrm_frm _ (by have := h1.room; omega), h1, ?_⟩
  unfold play
  rw [inn_frm]
theorem Pk.is {h : Bool} {n : Nat} {d : List Nat} {b : List Nat} (hb : ∀ z ∈ b, z ≤ 255) (hf : isFrm b = true) (hi : Pk (inn b) h n d) : Is b h n d := by
  refine ⟨hi.1, ?_⟩
  unfold play
  rw [← hi.2, frm_inn b hb hf]

theorem tk_bit (zs : List Nat) (p m i : Nat) (h : i < m) : tk zs p m / 2 ^ (m - 1 - i) % 2 = rbit zs (p + i) := by
  induction m with
  | zero => omega
  | succ m ih =>
    rw [tk]
    have hr := rbit_le zs (p + m)
    rcases Nat.lt_or_ge i m with x | x
    · have e : m + 1 - 1 - i = (m - 1 - i) + 1 := by omega
      rw [e, Nat.pow_succ', ← Nat.div_div_eq_div_mul, show (2 * tk zs p m + rbit zs (p + m)) / 2 = tk zs p m by omega]
      exact ih x
    · obtain rfl : i = m := by omega
      rw [show i + 1 - 1 - i = 0 by omega, Nat.pow_zero, Nat.div_one]
      omega
theorem byte_of (zs : List Nat) (i : Nat) (h : zs.getD i 0 ≤ 255) : zs.getD i 0 = 128 * rbit zs (8 * i) + 64 * rbit zs (8 * i + 1) + 32 * rbit zs (8 * i + 2) + 16 * rbit zs (8 * i + 3) + 8 * rbit zs (8 * i + 4) + 4 * rbit zs (8 * i + 5) + 2 * rbit zs (8 * i + 6) + rbit zs (8 * i + 7) := by
  unfold rbit
  have e : ∀ j, j < 8 → (8 * i + j) / 8 = i ∧ (8 * i + j) % 8 = j := fun j hj => by omega
  rw [show (8 * i) / 8 = i by omega, show (8 * i) % 8 = 0 by omega, (e 1 (by omega)).1, (e 1 (by omega)).2, (e 2 (by omega)).1, (e 2 (by omega)).2, (e 3 (by omega)).1, (e 3 (by omega)).2, (e 4 (by omega)).1, (e 4 (by omega)).2, (e 5 (by omega)).1, (e 5 (by omega)).2, (e 6 (by omega)).1, (e 6 (by omega)).2, (e 7 (by omega)).1, (e 7 (by omega)).2]
  generalize zs.getD i 0 = z at *
  simp only [pw, show (2 : Nat) ^ (7 - 0) = 128 from rfl, show (2 : Nat) ^ (7 - 1) = 64 from rfl, show (2 : Nat) ^ (7 - 2) = 32 from rfl, show (2 : Nat) ^ (7 - 3) = 16 from rfl, show (2 : Nat) ^ (7 - 4) = 8 from rfl, show (2 : Nat) ^ (7 - 5) = 4 from rfl, show (2 : Nat) ^ (7 - 6) = 2 from rfl, show (2 : Nat) ^ (7 - 7) = 1 from rfl, Nat.div_one]
  exact (byte_sum z h).symm
/-- Bytes whose bits are those of a list, and 0 behind it. -/
theorem eq_pack (zs : List Nat) (bs : List Bool) (hz : ∀ z ∈ zs, z ≤ 255) (h1 : bs.length ≤ 8 * zs.length) (h2 : 8 * zs.length < bs.length + 8) (h3 : ∀ k, k < 8 * zs.length → rbit zs k = bitN bs k) : zs = pack bs := by
  have hn : nb bs.length = zs.length := by unfold nb; omega
  apply List.ext_getElem?
  intro i
  rcases Nat.lt_or_ge i zs.length with x | x
  · rw [pack_get _ _ (by omega), List.getElem?_eq_getElem x]
    have hg : zs.getD i 0 = zs[i] := by simp [List.getD, List.getElem?_eq_getElem x]
    rw [← hg, byte_of zs i (by rw [hg]; exact hz _ (List.getElem_mem x))]
    unfold byteAt
    rw [h3 _ (by omega), h3 _ (by omega), h3 _ (by omega), h3 _ (by omega), h3 _ (by omega), h3 _ (by omega), h3 _ (by omega), h3 _ (by omega)]
  · rw [List.getElem?_eq_none x, List.getElem?_eq_none (by rw [pack_length]; omega)]
/-- What is read off a packet's bytes. -/
structure Read (zs : List Nat) (h : Bool) (q n m : Nat) : Prop where
  one : 1 ≤ 8 * zs.length
  kind : (tk zs 0 1 == 1) = h
  zero : Zs zs 1 q
  q63 : q ≤ 63
  fits : 2 + 2 * q ≤ 8 * zs.length
  num : n = tk zs (1 + q) (q + 1) - 1
  tail : 8 * zs.length < 2 + 2 * q + 8 * m + 8
  inn : 2 + 2 * q + 8 * m ≤ 8 * zs.length
  rest : ∀ k, 2 + 2 * q + 8 * m ≤ k → k < 8 * zs.length → rbit zs k = 0
theorem Read.top {zs : List Nat} {h : Bool} {q n m : Nat} (r : Read zs h q n m) : tk zs (1 + q) (q + 1) = n + 1 ∧ kz n = q ∧ n + 1 < 18446744073709551616 := by
  have h1 : rbit zs (1 + q) = 1 := by have := r.fits; have := r.q63; rcases r.zero.stop with e | e | e <;> omega
  have hlo := tk_top zs (1 + q) q h1
  have hp := Nat.two_pow_pos q
  have hhi := tk_lt zs (1 + q) (q + 1)
  have h2 : (2 : Nat) ^ (q + 1) ≤ 2 ^ 64 := Nat.pow_le_pow_right (by decide) (by have := r.q63; omega)
  have e : (2 : Nat) ^ 64 = 18446744073709551616 := by decide
  have hn := r.num
  have e1 : tk zs (1 + q) (q + 1) = n + 1 := by omega
  rw [e1] at hlo hhi
  exact ⟨e1, pow_unique _ _ _ (kz_le n) (kz_lt n) hlo hhi, by omega⟩
/-- The bytes read. -/
def dat (zs : List Nat) (p m : Nat) : List Nat := (List.range m).map fun j => tk zs (p + 8 * j) 8
theorem dat_length (zs : List Nat) (p m : Nat) : (dat zs p m).length = m := by simp [dat]
theorem dat_get (zs : List Nat) (p m j : Nat) (h : j < m) : (dat zs p m).getD j 0 = tk zs (p + 8 * j) 8 := by simp [dat, List.getD, h]
theorem dat_byte (zs : List Nat) (p m : Nat) : ∀ z ∈ dat zs p m, z ≤ 255 := by
  intro z hz
  simp only [dat, List.mem_map] at hz
  obtain ⟨j, _, rfl⟩ := hz
  have := tk_lt zs (p + 8 * j) 8
  have e : (2 : Nat) ^ 8 = 256 := by decide
  omega
theorem dat_succ (zs : List Nat) (p m : Nat) : dat zs p (m + 1) = dat zs p m ++ [tk zs (p + 8 * m) 8] := by simp [dat, List.range_succ]
theorem dat_rbit (zs : List Nat) (p m k : Nat) (h : k < 8 * m) : rbit (dat zs p m) k = rbit zs (p + k) := by
  have e : k = 8 * (k / 8) + k % 8 := by omega
  have hb := tk_bit zs (p + 8 * (k / 8)) 8 (k % 8) (by omega)
  conv => lhs; unfold rbit
  rw [dat_get _ _ _ _ (by omega), pw, show 7 - k % 8 = 8 - 1 - k % 8 by omega, hb]
  congr 1; omega
theorem Read.pk {zs : List Nat} {h : Bool} {q n m : Nat} (r : Read zs h q n m) (hz : ∀ z ∈ zs, z ≤ 255) (hm : m ≤ 200) (hh : h = true → m = 0) : Pk zs h n (dat zs (2 + 2 * q) m) := by
  obtain ⟨t1, t2, t3⟩ := r.top
  have hl : (pb h n (dat zs (2 + 2 * q) m)).length = 2 + 2 * q + 8 * m := by rw [pb_length, t2, dat_length]
  have hi := r.inn
  refine ⟨⟨t3, by rw [dat_length]; exact hm, fun e => by rw [hh e]; rfl, dat_byte _ _ _⟩, eq_pack zs _ hz (by omega) (by have := r.tail; omega) fun k hk => ?_⟩
  rcases Nat.lt_or_ge k 1 with x | x
  · obtain rfl : k = 0 := by omega
    unfold pb
    rw [List.append_assoc, bitN_left _ _ _ (by rw [bitsOf_length]; omega), bit1]
    have hk := r.kind
    have hr := rbit_le zs 0
    have e : tk zs 0 1 = rbit zs 0 := by simp [tk]
    rw [e] at hk
    show _ = bn h
    rw [← hk]
    have : rbit zs 0 = 0 ∨ rbit zs 0 = 1 := by omega
    rcases this with e | e <;> rw [e] <;> rfl
  obtain ⟨i, rfl⟩ : ∃ i, k = 1 + i := ⟨k - 1, by omega⟩
  have hb1 := bitN_right (bitsOf (bn h) 1) (countBits n ++ bitsZ (dat zs (2 + 2 * q) m)) i
  rw [bitsOf_length] at hb1
  unfold pb
  rw [List.append_assoc, hb1]
  rcases Nat.lt_or_ge i (2 * q + 1) with y | y
  · rw [bitN_left _ _ _ (by rw [countBits_length, t2]; omega)]
    rcases Nat.lt_or_ge i q with u | u
    · rw [count_zero n i (by omega), r.zero.zero i u]
    · obtain ⟨j, rfl⟩ : ∃ j, i = q + j := ⟨i - q, by omega⟩
      unfold countBits
      have hr := bitN_right (List.replicate (kz n) false) (bitsOf (n + 1) (kz n + 1)) j
      rw [List.length_replicate, t2] at hr
      rw [t2, hr, bitN_bitsOf _ _ _ (by omega), ← t1, tk_bit _ _ _ _ (by omega)]
      congr 1; omega
  · obtain ⟨j, rfl⟩ : ∃ j, i = 2 * q + 1 + j := ⟨i - (2 * q + 1), by omega⟩
    have hr := bitN_right (countBits n) (bitsZ (dat zs (2 + 2 * q) m)) j
    rw [countBits_length, t2] at hr
    rw [hr]
    rcases Nat.lt_or_ge j (8 * m) with u | u
    · rw [rbit_bits _ _ (by rw [dat_length]; exact u), dat_rbit _ _ _ _ u]
      congr 1; omega
    · rw [bitN_ge _ _ (by rw [bitsZ_len, dat_length]; exact u), r.rest _ (by omega) hk]
theorem bitsZ_at (d : List Nat) (j : Nat) (h : j < d.length) : ∃ a c, bitsZ d = a ++ bitsOf (d.getD j 0) 8 ++ c ∧ a.length = 8 * j := by
  refine ⟨bitsZ (d.take j), bitsZ (d.drop (j + 1)), ?_, by rw [bitsZ_len, List.length_take]; omega⟩
  have e : d = d.take j ++ [d.getD j 0] ++ d.drop (j + 1) := by
    have hg : d.getD j 0 = d[j] := by simp [List.getD, List.getElem?_eq_getElem h]
    rw [hg, List.append_assoc]
    conv => lhs; rw [← List.take_append_drop j d, List.drop_eq_getElem_cons h]
    rfl
  conv => lhs; rw [e]
  simp [bitsZ]
/-- A packet's bytes are read so. -/
theorem Pk.read {zs : List Nat} {h : Bool} {n : Nat} {d : List Nat} (r : Pk zs h n d) : Read zs h (kz n) n d.length ∧ dat zs (2 + 2 * kz n) d.length = d := by
  obtain ⟨ok, rfl⟩ := r
  have hl := pb_length h n d
  have hnb : 8 * (pack (pb h n d)).length < 2 + 2 * kz n + 8 * d.length + 8 ∧ 2 + 2 * kz n + 8 * d.length ≤ 8 * (pack (pb h n d)).length := by
    rw [pack_length, hl]; unfold nb; omega
  have g0 : Has (pack (pb h n d)) 0 (bitsOf (bn h) 1) := by
    have := has_pack [] (bitsOf (bn h) 1) (countBits n ++ bitsZ d) 0 rfl
    rw [List.nil_append, ← List.append_assoc] at this
    exact this
  have g1 : Has (pack (pb h n d)) 1 (countBits n) := has_pack _ _ _ 1 (by rw [bitsOf_length])
  obtain ⟨a1, a2⟩ := g0.get
  obtain ⟨b1, b2, b3, b4⟩ := g1.count ok.num
  have hb := bn_le h
  refine ⟨⟨by omega, ?_, b1, b2, by omega, by omega, hnb.1, hnb.2, fun k hk1 hk2 => ?_⟩, ?_⟩
  · rw [a2]; cases h <;> rfl
  · rw [rbit_pack _ _ (by rw [pack_length] at hk2; exact hk2), bitN_ge _ _ (by omega)]
  · apply List.ext_getElem?
    intro j
    rcases Nat.lt_or_ge j d.length with x | x
    · rw [List.getElem?_eq_getElem (by rw [dat_length]; exact x), List.getElem?_eq_getElem x]
      obtain ⟨a, c, e, ha⟩ := bitsZ_at d j x
      have g2 : Has (pack (pb h n d)) (2 + 2 * kz n + 8 * j) (bitsOf (d.getD j 0) 8) := by
        have := has_pack (bitsOf (bn h) 1 ++ countBits n ++ a) (bitsOf (d.getD j 0) 8) c (2 + 2 * kz n + 8 * j) (by rw [List.length_append, List.length_append, bitsOf_length, countBits_length, ha]; omega)
        have e2 : bitsOf (bn h) 1 ++ countBits n ++ a ++ bitsOf (d.getD j 0) 8 ++ c = pb h n d := by
          unfold pb; rw [e]; simp only [List.append_assoc]
        rw [e2] at this
        exact this
      have hd1 := dat_get (pack (pb h n d)) (2 + 2 * kz n) d.length j x
      rw [g2.get.2] at hd1
      have hd2 : d.getD j 0 = d[j] := by simp [List.getD, List.getElem?_eq_getElem x]
      have hd3 : (dat (pack (pb h n d)) (2 + 2 * kz n) d.length).getD j 0 = (dat (pack (pb h n d)) (2 + 2 * kz n) d.length)[j]'(by rw [dat_length]; exact x) := by simp [List.getD, List.getElem?_eq_getElem (show j < (dat (pack (pb h n d)) (2 + 2 * kz n) d.length).length by rw [dat_length]; exact x)]
      have hle := ok.byte _ (List.getElem_mem x)
      rw [hd2, Nat.mod_eq_of_lt (by have e : (2 : Nat) ^ 8 = 256 := by decide
                                    omega)] at hd1
      rw [← hd3, hd1]
    · rw [List.getElem?_eq_none (by rw [dat_length]; exact x), List.getElem?_eq_none x]
theorem Read.same {zs : List Nat} {h h' : Bool} {q q' n n' m m' : Nat} (r : Read zs h q n m) (s : Read zs h' q' n' m') : h = h' ∧ q = q' ∧ n = n' ∧ m = m' := by
  have e : q = q' := r.zero.unique s.zero
  subst e
  have := r.tail
  have := r.inn
  have := s.tail
  have := s.inn
  exact ⟨r.kind.symm.trans s.kind, rfl, r.num.trans s.num.symm, by omega⟩
theorem Pk.uniq {zs : List Nat} {h h' : Bool} {n n' : Nat} {d d' : List Nat} (r : Pk zs h n d) (s : Pk zs h' n' d') : h = h' ∧ n = n' ∧ d = d' := by
  obtain ⟨r1, r2⟩ := r.read
  obtain ⟨s1, s2⟩ := s.read
  obtain ⟨h1, h2, h3, h4⟩ := r1.same s1
  refine ⟨h1, h3, ?_⟩
  rw [← r2, ← s2, h3, h4]
theorem Is.uniq {b : List Nat} {h h' : Bool} {n n' : Nat} {d d' : List Nat} (r : Is b h n d) (s : Is b h' n' d') : h = h' ∧ n = n' ∧ d = d' := r.pk.2.uniq s.pk.2
theorem play_inj {h h' : Bool} {n n' : Nat} {d d' : List Nat} (r : Ok h n d) (s : Ok h' n' d') (e : play h n d = play h' n' d') : h = h' ∧ n = n' ∧ d = d' := Is.uniq ⟨r, rfl⟩ ⟨s, e⟩
end Ln
end Go.Proofs.YtobpinelhjpfgaaDoor
end

section
namespace Go.Proofs.YtobpinelhjpfgaaDoor
namespace Ln
open Go.RowKit Bp Ck
theorem take_bits (d : List Nat) (k : Nat) (h : k < d.length) : bitsZ (d.take (k + 1)) = bitsZ (d.take k) ++ bitsOf (d.getD k 0) 8 := by
  have hg : d.getD k 0 = d[k] := by simp [List.getD, List.getElem?_eq_getElem h]
  rw [hg, List.take_succ_eq_append_getElem h, bitsZ_snoc]
set_option maxHeartbeats 1000000 in
theorem lspread_any {B : Nat} {w0 w : World} {A : Option Addr} {n cap b : Nat} {d : List Nat} {bs : List Bool} (h : Wb w0 B w b bs) (hd : By B w0 A n cap d) (hl : bs.length + 8 * n ≤ 1048576) :
    Calls Tryd.prog 89 #[.slice A n cap, .func (.func 81) #[.pointer (some ⟨b, 0, none⟩)] #[]] w fun e w' => e = .returned (.tuple #[]) ∧ Wb w0 B w' b (bs ++ bitsZ d) := by
  have hle := hd.le
  have hmx := hd.max
  unfold maxLen at hmx
  have HH := Lib.hid h
  have HD := Lib.hid hd
  have HL := Lib.hid hd.len
  clear h hd
  go_enter Tryd.func89, Tryd.ntmps89
  go_wp2
  go_loopw [8] (fun iv wr => ∃ k : Nat, k ≤ n ∧ iv = .int .i64 (k : Int) ∧ Wb w0 B wr b (bs ++ bitsZ (d.take k))) (fun iv _ => n - (intOf iv).toNat)
  case atStart => exact ⟨0, Nat.zero_le _, rfl, by simpa [bitsZ] using HH.out⟩
  case round =>
    obtain ⟨k, hk, rfl, hw⟩ := hrel
    have HW := Lib.hid hw
    clear hw
    by_cases hlt : k < n
    · have hd1 := HD.out.below HW.out.below
      obtain ⟨g, off, rfl, hg, hc⟩ := hd1.cell (by omega)
      have hck := hc k hlt
      have hz := getD_byte d k hd1.byte
      have HS := Lib.hid (take_bits d k (by rw [HL.out]; exact hlt))
      have hln : (bs ++ bitsZ (d.take k)).length + 8 ≤ 1048576 := by rw [List.length_append, bitsZ_len, List.length_take]; omega
      have HLN := Lib.hid hln
      clear hc hd1 hln
      generalize d.getD k 0 = z at *
      go_wp2_with fail
      refine (wb_put b z 8 _ _ w0 _ B _ HW.out (by omega) (by omega) HLN.out rfl rfl).mono ?_
      rintro e w' ⟨rfl, hw2⟩
      have HW2 := Lib.hid hw2
      clear hw2
      go_wp2
      go_roundw
      case rel => exact ⟨k + 1, by omega, by go_num, by rw [HS.out, ← List.append_assoc]; exact HW2.out⟩
      case measure => simp [intOf]; omega
    · obtain rfl : k = n := by omega
      go_wp2
      go_end0
      refine ⟨rfl, ?_⟩
      have := HW.out
      rwa [List.take_of_length_le (by rw [HL.out]; exact Nat.le_refl _)] at this
theorem kind_any (h : Bool) (n : Int) (A : Option Addr) (m c : Nat) (w : World) :
    Calls Tryd.prog 87 #[.agg #[.bool h, .int .u64 n, .slice A m c]] w fun e w' => e = .returned (.int .u64 (if h then 1 else 0)) ∧ ∃ o, w' = w.alloc o := by
  cases h
  · go_enter Tryd.func87, Tryd.ntmps87
    go_wp2
    go_ret
    exact ⟨rfl, _, rfl⟩
  · go_enter Tryd.func87, Tryd.ntmps87
    go_wp2
    go_ret
    exact ⟨rfl, _, rfl⟩
/-- What Lay gives. -/
def LayTold (w : World) (zs : List Nat) (e : Ending) (w' : World) : Prop := ∃ g c, e = .returned (.tuple #[.slice (some ⟨g, 0, none⟩) zs.length c, .int .i64 0]) ∧ w'.ownsRow w.heap.size 5 1 (.slice (some ⟨g, 0, none⟩) zs.length c) zs.length (bc zs) ∧ Below w.heap.size w w'
set_option maxHeartbeats 1000000 in
theorem lay_told {B : Nat} {w : World} {n : Nat} {A : Option Addr} {m c : Nat} {d : List Nat} (hok : Ok false n d) (hd : By B w A m c d) (hB : B ≤ w.heap.size) :
    Calls Tryd.prog 45 #[.agg #[.bool false, .int .u64 (n : Int), .slice A m c]] w (LayTold w (play false n d)) := by
  have hle := hd.le
  have hmx := hd.max
  have hln := hd.len
  have hfew := hok.few
  have hnum := hok.num
  unfold maxLen at hmx
  have e1 : decide ((200 : Int) < (m : Int)) = false := decide_eq_false (by omega)
  have e2 : decide ((18446744073709551614 : Int) < (n : Int)) = false := decide_eq_false (by omega)
  have HK := Lib.hid hok
  have HD := Lib.hid hd
  have HLN := Lib.hid hln
  have hb1 : Below w.heap.size w (w.alloc (.cells #[.bool false, .int .u64 (n : Int), .slice A m c] 48)) := (Below.refl _ _).alloc (Nat.le_refl _) _
  have hs1 : (w.alloc (.cells #[.bool false, .int .u64 (n : Int), .slice A m c] 48)).heap.size = w.heap.size + 1 := by simp
  have HB1 := Lib.hid hb1
  have HS1 := Lib.hid hs1
  have HC : Hid (∀ W, Below (w.heap.size + 1) (w.alloc (.cells #[.bool false, .int .u64 (n : Int), .slice A m c] 48)) W → W.cell? ⟨w.heap.size, 1, none⟩ = some (.int .u64 (n : Int)) ∧ W.cell? ⟨w.heap.size, 2, none⟩ = some (.slice A m c)) := Lib.hid (fun W hW => by
    have k : ∀ j u, (#[Value.bool false, .int .u64 (n : Int), .slice A m c] : Array Value)[j]? = some u → W.cell? ⟨w.heap.size, j, none⟩ = some u := fun j u hu => by
      rw [hW.cell (p := ⟨w.heap.size, j, none⟩) (Nat.lt_succ_self _), cell_of_row _ w.heap.size j _ _ _ (heap_alloc_new w _)]
      exact hu
    exact ⟨k 1 _ rfl, k 2 _ rfl⟩)
  have HD1 : Hid (By (w.heap.size + 1) (w.alloc (.cells #[.bool false, .int .u64 (n : Int), .slice A m c] 48)) A m c d) := Lib.hid ((hd.below (hb1.mono hB)).mono (by omega))
  have hw := (wb_start (w.alloc (.cells #[.bool false, .int .u64 (n : Int), .slice A m c] 48)) (w.alloc (.cells #[.bool false, .int .u64 (n : Int), .slice A m c] 48)) (Below.refl _ _))
  rw [hs1] at hw
  have HW := Lib.hid hw
  have HKZ := Lib.hid hok.kz
  have HN := Lib.hid hnum
  have HF := Lib.hid hfew
  clear hok hd hln hfew hnum hb1 hs1 hw
  go_enter Tryd.func45, Tryd.ntmps45
  go_wp2_with fail
  refine (newWriter_any _).mono ?_
  rintro e w1 ⟨rfl, rfl⟩
  go_wp2_with fail
  refine (kind_any false _ _ _ _ _).mono ?_
  rintro e w2 ⟨rfl, o2, rfl⟩
  have HW2 := Lib.hid (HW.out.alloc o2)
  clear HW
  go_wp2_with fail
  refine (wb_put _ 0 1 _ 1 _ _ _ _ HW2.out (by decide) (by decide) (by decide) (by rfl) (by rfl)).mono ?_
  rintro e w3 ⟨rfl, hw3⟩
  obtain ⟨k1, k2⟩ := HC.out w3 hw3.below
  have HW3 := Lib.hid hw3
  clear hw3 HW2
  go_wp2_with fail
  refine (wb_count _ n _ _ _ _ _ HW3.out HN.out (by rw [List.nil_append, bitsOf_length]; have := HKZ.out; omega) rfl).mono ?_
  rintro e w4 ⟨rfl, hw4⟩
  obtain ⟨j1, j2⟩ := HC.out w4 hw4.below
  have HW4 := Lib.hid hw4
  clear hw4 HW3 k1 k2
  go_wp2_with fail
  refine (lspread_any HW4.out HD1.out (by rw [List.nil_append, List.length_append, bitsOf_length, countBits_length]; have := HKZ.out; have := HF.out; have := HLN.out; omega)).mono ?_
  rintro e w5 ⟨rfl, hw5⟩
  have HW5 := Lib.hid hw5
  clear hw5 HW4 j1 j2 HC
  go_wp2_with fail
  refine (wb_out _ _ _ _ _ HW5.out).mono ?_
  rintro e w6 ⟨oa, oc, rfl, ho, hw6⟩
  have hln : (pack (pb false n d)).length = nb ((([] ++ bitsOf 0 1) ++ countBits n ++ bitsZ d)).length := by rw [pack_length]; rfl
  have ho' : w6.ownsRow (w.heap.size + 1) 5 1 (.slice oa (nb ((([] ++ bitsOf 0 1) ++ countBits n ++ bitsZ d)).length) oc) (nb ((([] ++ bitsOf 0 1) ++ countBits n ++ bitsZ d)).length) (bc (pack (pb false n d))) := ownsRow_lower ho HW5.out.size
  have HY : Hid (By w6.heap.size w6 oa (nb ((([] ++ bitsOf 0 1) ++ countBits n ++ bitsZ d)).length) oc (pack (pb false n d))) := Lib.hid (By.own ho' (pack_byte _))
  have hrm := HK.out.room
  have HR : Hid (nb ((([] ++ bitsOf 0 1) ++ countBits n ++ bitsZ d)).length ≤ 1000) := Lib.hid (by rw [← hln]; omega)
  have HB6 : Hid (Below w.heap.size w w6) := Lib.hid (HB1.out.trans (hw6.below.mono (Nat.le_succ _)))
  have HQ : Hid (nb ((([] ++ bitsOf 0 1) ++ countBits n ++ bitsZ d)).length + 4 = (play false n d).length) := Lib.hid (by unfold play; rw [frm_len, hln])
  clear ho hw6 ho' hln hrm HW5
  generalize nb ((([] ++ bitsOf 0 1) ++ countBits n ++ bitsZ d)).length = N at *
  go_wp2_with fail
  refine (frame_ok HY.out (Nat.le_refl _) HR.out).mono ?_
  rintro e w7 ⟨g7, c7, rfl, ho7, hb7⟩
  have HO7 := Lib.hid ho7
  have HB7 := Lib.hid (HB6.out.trans (hb7.mono HB6.out.size))
  clear ho7 hb7
  go_wp2_with fail
  go_ret2
  refine ⟨g7, c7, by rw [← HQ.out]; rfl, ?_, HB7.out⟩
  have := ownsRow_lower HO7.out HB6.out.size
  rw [← HQ.out]
  exact this
set_option maxHeartbeats 1000000 in
theorem lay_heard {B : Nat} {w : World} {n : Nat} {A : Option Addr} {c : Nat} (hok : Ok true n []) (hd : By B w A 0 c []) (hB : B ≤ w.heap.size) :
    Calls Tryd.prog 45 #[.agg #[.bool true, .int .u64 (n : Int), .slice A 0 c]] w (LayTold w (play true n [])) := by
  have hle := hd.le
  have hmx := hd.max
  have hln := hd.len
  have hfew := hok.few
  have hnum := hok.num
  unfold maxLen at hmx
  have e2 : decide ((18446744073709551614 : Int) < (n : Int)) = false := decide_eq_false (by omega)
  have HK := Lib.hid hok
  have HD := Lib.hid hd
  have HLN := Lib.hid hln
  have hb1 : Below w.heap.size w (w.alloc (.cells #[.bool true, .int .u64 (n : Int), .slice A 0 c] 48)) := (Below.refl _ _).alloc (Nat.le_refl _) _
  have hs1 : (w.alloc (.cells #[.bool true, .int .u64 (n : Int), .slice A 0 c] 48)).heap.size = w.heap.size + 1 := by simp
  have HB1 := Lib.hid hb1
  have HS1 := Lib.hid hs1
  have HC : Hid (∀ W, Below (w.heap.size + 1) (w.alloc (.cells #[.bool true, .int .u64 (n : Int), .slice A 0 c] 48)) W → W.cell? ⟨w.heap.size, 1, none⟩ = some (.int .u64 (n : Int)) ∧ W.cell? ⟨w.heap.size, 2, none⟩ = some (.slice A 0 c)) := Lib.hid (fun W hW => by
    have k : ∀ j u, (#[Value.bool true, .int .u64 (n : Int), .slice A 0 c] : Array Value)[j]? = some u → W.cell? ⟨w.heap.size, j, none⟩ = some u := fun j u hu => by
      rw [hW.cell (p := ⟨w.heap.size, j, none⟩) (Nat.lt_succ_self _), cell_of_row _ w.heap.size j _ _ _ (heap_alloc_new w _)]
      exact hu
    exact ⟨k 1 _ rfl, k 2 _ rfl⟩)
  have HD1 : Hid (By (w.heap.size + 1) (w.alloc (.cells #[.bool true, .int .u64 (n : Int), .slice A 0 c] 48)) A 0 c []) := Lib.hid ((hd.below (hb1.mono hB)).mono (by omega))
  have hw := (wb_start (w.alloc (.cells #[.bool true, .int .u64 (n : Int), .slice A 0 c] 48)) (w.alloc (.cells #[.bool true, .int .u64 (n : Int), .slice A 0 c] 48)) (Below.refl _ _))
  rw [hs1] at hw
  have HW := Lib.hid hw
  have HKZ := Lib.hid hok.kz
  have HN := Lib.hid hnum
  have HF := Lib.hid hfew
  clear hok hd hln hfew hnum hb1 hs1 hw
  go_enter Tryd.func45, Tryd.ntmps45
  go_wp2_with fail
  refine (newWriter_any _).mono ?_
  rintro e w1 ⟨rfl, rfl⟩
  go_wp2_with fail
  refine (kind_any true _ _ _ _ _).mono ?_
  rintro e w2 ⟨rfl, o2, rfl⟩
  have HW2 := Lib.hid (HW.out.alloc o2)
  clear HW
  go_wp2_with fail
  refine (wb_put _ 1 1 _ 1 _ _ _ _ HW2.out (by decide) (by decide) (by decide) (by rfl) (by rfl)).mono ?_
  rintro e w3 ⟨rfl, hw3⟩
  obtain ⟨k1, k2⟩ := HC.out w3 hw3.below
  have HW3 := Lib.hid hw3
  clear hw3 HW2
  go_wp2_with fail
  refine (wb_count _ n _ _ _ _ _ HW3.out HN.out (by rw [List.nil_append, bitsOf_length]; have := HKZ.out; omega) rfl).mono ?_
  rintro e w4 ⟨rfl, hw4⟩
  obtain ⟨j1, j2⟩ := HC.out w4 hw4.below
  have HW4 := Lib.hid hw4
  clear hw4 HW3 k1 k2
  go_wp2_with fail
  refine (lspread_any HW4.out HD1.out (by rw [List.nil_append, List.length_append, bitsOf_length, countBits_length]; have := HKZ.out; have := HF.out; have := HLN.out; omega)).mono ?_
  rintro e w5 ⟨rfl, hw5⟩
  have HW5 := Lib.hid hw5
  clear hw5 HW4 j1 j2 HC
  go_wp2_with fail
  refine (wb_out _ _ _ _ _ HW5.out).mono ?_
  rintro e w6 ⟨oa, oc, rfl, ho, hw6⟩
  have hln : (pack (pb true n [])).length = nb ((([] ++ bitsOf 1 1) ++ countBits n ++ bitsZ [])).length := by rw [pack_length]; rfl
  have ho' : w6.ownsRow (w.heap.size + 1) 5 1 (.slice oa (nb ((([] ++ bitsOf 1 1) ++ countBits n ++ bitsZ [])).length) oc) (nb ((([] ++ bitsOf 1 1) ++ countBits n ++ bitsZ [])).length) (bc (pack (pb true n []))) := ownsRow_lower ho HW5.out.size
  have HY : Hid (By w6.heap.size w6 oa (nb ((([] ++ bitsOf 1 1) ++ countBits n ++ bitsZ [])).length) oc (pack (pb true n []))) := Lib.hid (By.own ho' (pack_byte _))
  have hrm := HK.out.room
  have HR : Hid (nb ((([] ++ bitsOf 1 1) ++ countBits n ++ bitsZ [])).length ≤ 1000) := Lib.hid (by rw [← hln]; omega)
  have HB6 : Hid (Below w.heap.size w w6) := Lib.hid (HB1.out.trans (hw6.below.mono (Nat.le_succ _)))
  have HQ : Hid (nb ((([] ++ bitsOf 1 1) ++ countBits n ++ bitsZ [])).length + 4 = (play true n []).length) := Lib.hid (by unfold play; rw [frm_len, hln])
  clear ho hw6 ho' hln hrm HW5
  generalize nb ((([] ++ bitsOf 1 1) ++ countBits n ++ bitsZ [])).length = N at *
  go_wp2_with fail
  refine (frame_ok HY.out (Nat.le_refl _) HR.out).mono ?_
  rintro e w7 ⟨g7, c7, rfl, ho7, hb7⟩
  have HO7 := Lib.hid ho7
  have HB7 := Lib.hid (HB6.out.trans (hb7.mono HB6.out.size))
  clear ho7 hb7
  go_wp2_with fail
  go_ret2
  refine ⟨g7, c7, by rw [← HQ.out]; rfl, ?_, HB7.out⟩
  have := ownsRow_lower HO7.out HB6.out.size
  rw [← HQ.out]
  exact this
theorem lay_ok {B : Nat} {w : World} {h : Bool} {n : Nat} {A : Option Addr} {m c : Nat} {d : List Nat} (hok : Ok h n d) (hd : By B w A m c d) (hB : B ≤ w.heap.size) :
    Calls Tryd.prog 45 #[.agg #[.bool h, .int .u64 (n : Int), .slice A m c]] w (LayTold w (play h n d)) := by
  cases h
  · exact lay_told hok hd hB
  · obtain rfl := hok.none_ rfl
    obtain rfl : m = 0 := hd.len.symm
    exact lay_heard hok hd hB
/-- What is refused. -/
theorem lay_long {w : World} {h : Bool} {n : Nat} {A : Option Addr} {m c : Nat} (hm : m ≤ 9223372036854775807) (hn : n < 18446744073709551616) (hl : 200 < m ∨ n = 18446744073709551615) :
    Calls Tryd.prog 45 #[.agg #[.bool h, .int .u64 (n : Int), .slice A m c]] w fun e w' => e = .returned (.tuple #[.slice none 0 0, .int .i64 4]) ∧ Below w.heap.size w w' := by
  by_cases h1 : 200 < m
  · have e1 : decide ((200 : Int) < (m : Int)) = true := decide_eq_true (by omega)
    have hb1 : Below w.heap.size w (w.alloc (.cells #[.bool h, .int .u64 (n : Int), .slice A m c] 48)) := (Below.refl _ _).alloc (Nat.le_refl _) _
    have HB1 := Lib.hid hb1
    clear hb1 hl
    go_enter Tryd.func45, Tryd.ntmps45
    go_wp2_with fail
    go_ret2
    exact ⟨rfl, HB1.out⟩
  · obtain rfl : n = 18446744073709551615 := by omega
    have e1 : decide ((200 : Int) < (m : Int)) = false := decide_eq_false (by omega)
    have hb1 : Below w.heap.size w (w.alloc (.cells #[.bool h, .int .u64 ((18446744073709551615 : Nat) : Int), .slice A m c] 48)) := (Below.refl _ _).alloc (Nat.le_refl _) _
    have HB1 := Lib.hid hb1
    clear hb1 hl
    go_enter Tryd.func45, Tryd.ntmps45
    go_wp2_with fail
    go_ret2
    exact ⟨rfl, HB1.out⟩
theorem lay_packet {w : World} {n : Nat} {A : Option Addr} {m c : Nat} (hm : 0 < m) (hm2 : m ≤ 200) (hn : n < 18446744073709551615) :
    Calls Tryd.prog 45 #[.agg #[.bool true, .int .u64 (n : Int), .slice A m c]] w fun e w' => e = .returned (.tuple #[.slice none 0 0, .int .i64 140]) ∧ Below w.heap.size w w' := by
  have e1 : decide ((200 : Int) < (m : Int)) = false := decide_eq_false (by omega)
  have e2 : decide ((18446744073709551614 : Int) < (n : Int)) = false := decide_eq_false (by omega)
  have hb1 : Below w.heap.size w (w.alloc (.cells #[.bool true, .int .u64 (n : Int), .slice A m c] 48)) := (Below.refl _ _).alloc (Nat.le_refl _) _
  have HB1 := Lib.hid hb1
  clear hb1
  go_enter Tryd.func45, Tryd.ntmps45
  go_wp2_with fail
  go_ret2
  exact ⟨rfl, HB1.out⟩
end Ln
end Go.Proofs.YtobpinelhjpfgaaDoor
end

section
namespace Go.Proofs.YtobpinelhjpfgaaDoor
namespace Ln
open Go.RowKit Bp Ck
theorem run_makeBytes (n : Nat) (hn : n ≤ 1000000) (wx : World) : (Instr.makeSlice 35 (.int .i64 (n : Int)) (.int .i64 (n : Int))).run Tryd.prog wx = .ok (.slice (some ⟨wx.heap.size, 0, none⟩) n n) (wx.alloc (.cells (bc (List.replicate n 0)).toArray 5)) := by
  obtain ⟨i0, hi, hz0, hz1, hz2⟩ := info_parts Tryd.infoU8
  have := run_make (P := Tryd.prog) wx 35 5 i0 _ Tryd.underlying35 hi hz0 .i64 .i64 n n (by omega) (Int.le_refl _) (by rw [hz2]; omega) (by omega)
  simp only [Int.toNat_natCast, hz1, Nat.mul_one] at this
  rw [this]
  have e : madeCells (Value.int .u8 0).cells n = (bc (List.replicate n 0)).toArray := by
    have := toList_madeCells_one (Value.int .u8 0) n
    apply Array.toList_inj.1
    rw [show (Value.int .u8 0).cells = #[Value.int .u8 0] from rfl, this]
    simp [bc]
  rw [e]
/-- Where a reader stands behind so many bytes, and what it has given: at a fault it stays, and gives 0. -/
def pos (f : Int) (p k : Nat) : Nat := if f = 0 then p + 8 * k else p
def byt (zs : List Nat) (f : Int) (p k : Nat) : Nat := if f = 0 then tk zs (p + 8 * k) 8 else 0
def gth (zs : List Nat) (f : Int) (p m : Nat) : List Nat := (List.range m).map (byt zs f p)
theorem gth_length (zs : List Nat) (f : Int) (p m : Nat) : (gth zs f p m).length = m := by simp [gth]
theorem gth_zero (zs : List Nat) (p m : Nat) : gth zs 0 p m = dat zs p m := by
  unfold gth dat byt
  simp
theorem byt_le (zs : List Nat) (f : Int) (p k : Nat) : byt zs f p k ≤ 255 := by
  unfold byt
  split
  · have := tk_lt zs (p + 8 * k) 8
    have e : (2 : Nat) ^ 8 = 256 := by decide
    omega
  · omega
theorem gth_byte (zs : List Nat) (f : Int) (p m : Nat) : ∀ z ∈ gth zs f p m, z ≤ 255 := by
  intro z hz
  simp only [gth, List.mem_map] at hz
  obtain ⟨j, _, rfl⟩ := hz
  exact byt_le _ _ _ _
theorem gth_set (zs : List Nat) (f : Int) (p k m : Nat) (h : k < m) : (gth zs f p k ++ List.replicate (m - k) 0).set k (byt zs f p k) = gth zs f p (k + 1) ++ List.replicate (m - (k + 1)) 0 := by
  have e : m - k = (m - (k + 1)) + 1 := by omega
  rw [e, List.replicate_succ, List.set_append_right _ _ (by rw [gth_length]; exact Nat.le_refl _), gth_length, Nat.sub_self, List.set_cons_zero]
  have e2 : gth zs f p (k + 1) = gth zs f p k ++ [byt zs f p k] := by simp [gth, List.range_succ]
  rw [e2, List.append_assoc]; rfl
theorem get8 (C b : Nat) (v : Value) (zs : List Nat) (p k m : Nat) (f : Int) (w : World) (h : Rd C w b v zs (pos f p k) f) (hk : k < m) (hm : f = 0 → p + 8 * m ≤ 8 * zs.length) :
    Calls Tryd.prog 74 #[.pointer (some ⟨b, 0, none⟩), .int .i64 8] w fun e w' => e = .returned (.int .u64 ((byt zs f p k : Nat) : Int)) ∧ RdTo C w b v zs (pos f p (k + 1)) f w' := by
  by_cases hf : f = 0
  · subst hf
    have e1 : pos 0 p k = p + 8 * k := if_pos rfl
    have e2 : pos 0 p (k + 1) = p + 8 * k + 8 := by rw [pos, if_pos rfl]; omega
    have e3 : byt zs 0 p k = tk zs (p + 8 * k) 8 := if_pos rfl
    rw [e1] at h
    rw [e2, e3]
    exact get_ok C b v zs (p + 8 * k) 8 w h (by omega) (by have := hm rfl; omega)
  · have e1 : pos f p k = p := if_neg hf
    have e2 : pos f p (k + 1) = p := if_neg hf
    have e3 : byt zs f p k = 0 := if_neg hf
    rw [e1] at h
    rw [e2, e3]
    refine (get_fault C b v zs p f 8 w h hf).mono ?_
    rintro e w' ⟨rfl, rfl⟩
    exact ⟨rfl, h, Turn.refl _ _⟩
/-- In the middle of asking: k bytes are there. -/
structure Gx (C b G : Nat) (v : Value) (zs : List Nat) (f : Int) (p k m : Nat) (w w' : World) : Prop where
  rd : Rd C w' b v zs (pos f p k) f
  below : Below C w w'
  row : w'.heap[G]? = some (.cells (bc (gth zs f p k ++ List.replicate (m - k) 0)).toArray 5 (0, 0))
theorem bc_get (l : List Nat) (j : Nat) (h : j < l.length) : (bc l).toArray[j]? = some (.int .u8 ((l.getD j 0 : Nat) : Int)) := by
  have e : l.getD j 0 = l[j] := by simp [List.getD, List.getElem?_eq_getElem h]
  rw [e]
  unfold bc
  rw [List.getElem?_toArray, List.getElem?_map, List.getElem?_eq_getElem h]; rfl
theorem Gx.got {C b G : Nat} {v : Value} {zs : List Nat} {f : Int} {p k m : Nat} {w w' w2 : World} (h : Gx C b G v zs f p k m w w') (hG : ∀ q, RF b v q → q < G) (ht : RdTo C w' b v zs (pos f p (k + 1)) f w2) :
    Below C w w2 ∧ w2.heap[G]? = some (.cells (bc (gth zs f p k ++ List.replicate (m - k) 0)).toArray 5 (0, 0)) := by
  refine ⟨h.below.trans (ht.2.below C (by have := h.below.size; have := (h.rd.lt (k := b) (.inl rfl)); omega) (fun q hq => (h.rd.lt hq).1)), ?_⟩
  rw [ht.2.block G (lt_of_heap h.row) (fun x => Nat.lt_irrefl _ (hG _ x))]
  exact h.row
theorem Gx.put {C b G : Nat} {v : Value} {zs : List Nat} {f : Int} {p k m : Nat} {w w2 : World} (hG : ∀ q, RF b v q → q < G) (hC : C ≤ G) (hk : k < m) (hr : Rd C w2 b v zs (pos f p (k + 1)) f) (hb : Below C w w2)
    (hh : w2.heap[G]? = some (.cells (bc (gth zs f p k ++ List.replicate (m - k) 0)).toArray 5 (0, 0))) :
    Gx C b G v zs f p (k + 1) m w (w2.setCell ⟨G, k, none⟩ (.int .u8 ((byt zs f p k : Nat) : Int))) := by
  refine ⟨hr.frame (fun q hq => Below.heap_setCell _ _ _ _ (by have := hG q hq; show q ≠ G; omega)), hb.setCell hC _, ?_⟩
  rw [heap_setCell_same w2 G k _ _ _ hh]
  have e := gth_set zs f p k m hk
  have e2 : (bc (gth zs f p k ++ List.replicate (m - k) 0)).toArray.set! k (.int .u8 ((byt zs f p k : Nat) : Int)) = (bc (gth zs f p (k + 1) ++ List.replicate (m - (k + 1)) 0)).toArray := by
    rw [← e, Array.set!_eq_setIfInBounds, List.setIfInBounds_toArray]
    unfold bc
    rw [List.map_set]
  first | rw [e2] | (simp only [e2]) | (rw [← e2]; simp)
def GthTold (w0 : World) (B : Nat) (w : World) (b : Nat) (zs : List Nat) (f : Int) (p m : Nat) (e : Ending) (w' : World) : Prop :=
  ∃ g, e = .returned (.slice (some ⟨g, 0, none⟩) m m) ∧ By w'.heap.size w' (some ⟨g, 0, none⟩) m m (gth zs f p m) ∧ (∃ C v, Rd C w' b v zs (pos f p m) f ∧ B ≤ C ∧ Below B w0 w' ∧ ∀ q, RF b v q → q ≠ g) ∧ B ≤ g ∧ g < w'.heap.size
set_option maxHeartbeats 1000000 in
theorem gather_any {B b m : Nat} {w0 w : World} {zs : List Nat} {p : Nat} {f M : Int} (h : Rb w0 B w b zs p f) (hm : f = 0 → p + 8 * m ≤ 8 * zs.length) (hm2 : m ≤ 100000) (hM : M = m) :
    Calls Tryd.prog 76 #[.int .i64 M, .func (.func 74) #[.pointer (some ⟨b, 0, none⟩)] #[]] w (GthTold w0 B w b zs f p m) := by
  subst hM
  obtain ⟨C, v, h1, h2, h3⟩ := h
  have hG : ∀ q, RF b v q → q < w.heap.size := fun q hq => (h1.lt hq).2
  have hC : C ≤ w.heap.size := by have := h1.lt (k := b) (.inl rfl); omega
  have hx : Gx C b w.heap.size v zs f p 0 m w (w.alloc (.cells (bc (List.replicate m 0)).toArray 5)) := by
    refine ⟨?_, (Below.refl _ _).alloc hC _, ?_⟩
    · have e : pos f p 0 = p := by unfold pos; split <;> rfl
      rw [e]
      exact h1.frame (fun q hq => Below.heap_alloc _ _ _ (hG q hq))
    · rw [heap_alloc_new]
      simp [gth]
  have HX := Lib.hid hx
  have HG := Lib.hid hG
  have HC := Lib.hid hC
  have HM := Lib.hid hm
  have mk := run_makeBytes m (by omega)
  have H3 := Lib.hid h3
  have H2 := Lib.hid h2
  clear h1 h2 h3 hm hx hG hC
  go_enter Tryd.func76, Tryd.ntmps76
  go_wp2
  go_loopw [11] (fun iv wr => ∃ k : Nat, k ≤ m ∧ iv = .int .i64 (k : Int) ∧ Gx C b w.heap.size v zs f p k m w wr) (fun iv _ => m - (intOf iv).toNat)
  case atStart => exact ⟨0, Nat.zero_le _, rfl, HX.out⟩
  case round =>
    obtain ⟨k, hk, rfl, hw⟩ := hrel
    have HW := Lib.hid hw
    clear hw
    by_cases hlt : k < m
    · go_wp2_with fail
      refine (get8 C b v zs p k m f _ HW.out.rd hlt HM.out).mono ?_
      rintro e w2 ⟨rfl, ht⟩
      have hgot := HW.out.got HG.out ht
      have hz := byt_le zs f p k
      have HP := Lib.hid (Gx.put HG.out HC.out hlt ht.1 hgot.1 hgot.2)
      have hfz := frozen_of_row w2 w.heap.size k _ _ hgot.2
      obtain ⟨y, hcell⟩ : ∃ y : Int, w2.cell? ⟨w.heap.size, k, none⟩ = some (.int .u8 y) := by
        rw [cell_of_row w2 w.heap.size k _ _ _ hgot.2]
        have hl : k < (gth zs f p k ++ List.replicate (m - k) 0).length := by rw [List.length_append, gth_length, List.length_replicate]; omega
        exact ⟨_, bc_get _ k hl⟩
      clear hgot ht
      generalize byt zs f p k = z at *
      go_wp2
      go_roundw
      case rel => exact ⟨k + 1, by omega, by go_num, HP.out⟩
      case measure => simp [intOf]; omega
    · obtain rfl : k = m := by omega
      go_wp2
      go_ret
      refine ⟨w.heap.size, rfl, ?_, ⟨C, v, HW.out.rd, H2.out, H3.out.trans (HW.out.below.mono H2.out), fun q hq => by have := HG.out q hq; omega⟩, Nat.le_trans H2.out HC.out, lt_of_heap HW.out.row⟩
      have hr := HW.out.row
      rw [Nat.sub_self, List.replicate_zero, List.append_nil] at hr
      refine ⟨gth_length _ _ _ _, Nat.le_refl _, by unfold maxLen; omega, fun e => (by cases e), gth_byte _ _ _ _, fun hn => ⟨w.heap.size, 0, rfl, lt_of_heap hr, fun j hj => ?_⟩⟩
      rw [Nat.zero_add, cell_of_row _ w.heap.size j _ _ _ hr]
      have hl : j < (gth zs f p k).length := by rw [gth_length]; exact hj
      exact bc_get _ j hl

/-- What Take gives. -/
def TakeTold (w : World) (bs : List Nat) (e : Ending) (w' : World) : Prop := Below w.heap.size w w' ∧
  ((∃ h n d A c, Is bs h n d ∧ e = .returned (.tuple #[.agg #[.bool h, .int .u64 (n : Int), .slice A d.length c], .int .i64 0]) ∧ By w'.heap.size w' A d.length c d ∧ ∀ a, A = some a → w.heap.size ≤ a.block) ∨
   ((∀ h n d, ¬ Is bs h n d) ∧ e = .returned (.tuple #[.agg #[.bool false, .int .u64 0, .slice none 0 0], .int .i64 140])))
end Ln
end Go.Proofs.YtobpinelhjpfgaaDoor
end

section
namespace Go.Proofs.YtobpinelhjpfgaaDoor
namespace Ln
open Go.RowKit Bp Ck
theorem rb_get1 {B b : Nat} {w0 w : World} {zs : List Nat} (h : Rb w0 B w b zs 0 0) :
    Calls Tryd.prog 74 #[.pointer (some ⟨b, 0, none⟩), .int .i64 1] w fun e w' => ∃ (N p' : Nat) (f' : Int), e = .returned (.int .u64 (N : Int)) ∧ Rb w0 B w' b zs p' f' ∧ ((1 ≤ 8 * zs.length ∧ N = tk zs 0 1 ∧ p' = 1 ∧ f' = 0) ∨ (zs.length = 0 ∧ N = 0 ∧ p' = 0 ∧ f' ≠ 0)) := by
  obtain ⟨C, v, h1, h2, h3⟩ := h
  by_cases hs : 0 + 1 ≤ 8 * zs.length
  · refine (get_ok C b v zs 0 1 w h1 (by omega) hs).mono ?_
    rintro e w' ⟨rfl, ht⟩
    exact ⟨_, _, _, rfl, Rb.to h1 h2 h3 ht, .inl ⟨by omega, rfl, rfl, rfl⟩⟩
  · refine (get_short C b v zs 0 1 w h1 (by omega) (by omega)).mono ?_
    rintro e w' ⟨rfl, ht⟩
    exact ⟨0, _, _, rfl, Rb.to h1 h2 h3 ht, .inr ⟨by omega, rfl, rfl, by decide⟩⟩
/-- How a count is read: at its place, or a fault. -/
def Cq (zs : List Nat) (p : Nat) (f : Int) (N p' : Nat) (f' : Int) : Prop :=
  (f' ≠ 0 ∧ (f = 0 → ∀ q, Zs zs p q → q ≤ 63 → 8 * zs.length < p + (2 * q + 1))) ∨
  (f = 0 ∧ f' = 0 ∧ ∃ q, Zs zs p q ∧ q ≤ 63 ∧ p + (2 * q + 1) ≤ 8 * zs.length ∧ N = tk zs (p + q) (q + 1) - 1 ∧ p' = p + (2 * q + 1))
theorem rb_count1 {B b : Nat} {w0 w : World} {zs : List Nat} {p : Nat} {f : Int} (h : Rb w0 B w b zs p f) :
    Calls Tryd.prog 75 #[.pointer (some ⟨b, 0, none⟩)] w fun e w' => ∃ (N p' : Nat) (f' : Int), e = .returned (.int .u64 (N : Int)) ∧ Rb w0 B w' b zs p' f' ∧ Cq zs p f N p' f' := by
  obtain ⟨C, v, h1, h2, h3⟩ := h
  by_cases hf : f = 0
  · subst hf
    obtain ⟨n, hz⟩ := zs_exists zs p h1.at_le
    by_cases h64 : n = 64
    · subst h64
      refine (count_toolong C b v zs p w h1 hz).mono ?_
      rintro e w' ⟨rfl, ht⟩
      exact ⟨0, p, 4, rfl, Rb.to h1 h2 h3 ht, .inl ⟨by decide, fun _ q hq hq2 => by have := hz.unique hq; omega⟩⟩
    · have hn : n ≤ 63 := by have := hz.few; omega
      by_cases hs : p + (2 * n + 1) ≤ 8 * zs.length
      · refine (rcount_ok C b v zs p n w h1 hz hn hs).mono ?_
        rintro e w' ⟨rfl, ht⟩
        exact ⟨_, _, 0, rfl, Rb.to h1 h2 h3 ht, .inr ⟨rfl, rfl, n, hz, hn, hs, rfl, rfl⟩⟩
      · refine (count_short C b v zs p n w h1 hz hn (by omega)).mono ?_
        rintro e w' ⟨rfl, ht⟩
        exact ⟨0, p, 10, rfl, Rb.to h1 h2 h3 ht, .inl ⟨by decide, fun _ q hq hq2 => by have := hz.unique hq; omega⟩⟩
  · refine (count_fault C b v zs p f w h1 hf).mono ?_
    rintro e w' ⟨rfl, rfl⟩
    exact ⟨0, p, f, rfl, ⟨C, v, h1, h2, h3⟩, .inl ⟨hf, fun x => absurd x hf⟩⟩
/-- What End tells. -/
def Eq (zs : List Nat) (p : Nat) (f E : Int) : Prop := (f ≠ 0 → E ≠ 0) ∧ (f = 0 → (E = 0 ↔ (8 * zs.length < p + 8 ∧ ∀ k, p ≤ k → k < 8 * zs.length → rbit zs k = 0)))
theorem rd_end1 {C b : Nat} {v : Value} {w : World} {zs : List Nat} {p : Nat} {f : Int} (h1 : Rd C w b v zs p f) :
    Calls Tryd.prog 78 #[.pointer (some ⟨b, 0, none⟩)] w fun e w' => ∃ E : Int, e = .returned (.int .i64 E) ∧ RdTo C w b v zs p f w' ∧ Eq zs p f E := by
  by_cases hf : f = 0
  · subst hf
    by_cases ht : p + 8 ≤ 8 * zs.length
    · refine (end_tail C b v zs p w h1 ht).mono ?_
      rintro e w' ⟨rfl, hr⟩
      exact ⟨11, rfl, hr, fun x => absurd rfl x, fun _ => ⟨fun x => by omega, fun x => by omega⟩⟩
    · obtain ⟨n, hz⟩ := zs_exists zs p h1.at_le
      refine (end_bit C b v zs p n w h1 hz (by omega)).mono ?_
      rintro e w' ⟨rfl, hr⟩
      refine ⟨_, rfl, hr, fun x => absurd rfl x, fun _ => ?_⟩
      have hi := hz.inn
      by_cases hlt : p + n < 8 * zs.length
      · rw [if_pos hlt]
        refine ⟨fun x => by omega, fun x => ?_⟩
        have h1 := x.2 (p + n) (by omega) hlt
        rcases hz.stop with y | y | y <;> omega
      · rw [if_neg hlt]
        exact ⟨fun _ => ⟨by omega, fun k k1 k2 => by
          have := hz.zero (k - p) (by omega)
          rwa [show p + (k - p) = k by omega] at this⟩, fun _ => rfl⟩
  · refine (end_fault C b v zs p f w h1 hf).mono ?_
    rintro e w' ⟨rfl, rfl⟩
    exact ⟨f, rfl, ⟨h1, Turn.refl _ _⟩, fun x => x, fun x => absurd x hf⟩
/-- Behind the kind and the count. -/
def Hd (zs : List Nat) (h : Bool) (n p : Nat) (f : Int) : Prop :=
  (f = 0 ∧ ∃ q, 1 ≤ 8 * zs.length ∧ (tk zs 0 1 == 1) = h ∧ Zs zs 1 q ∧ q ≤ 63 ∧ 2 + 2 * q ≤ 8 * zs.length ∧ n = tk zs (1 + q) (q + 1) - 1 ∧ p = 2 + 2 * q) ∨ (f ≠ 0 ∧ ∀ h n d, ¬ Pk zs h n d)
theorem hd_of {zs : List Nat} {N p1 : Nat} {f1 : Int} {n p : Nat} {f : Int} (h1 : (1 ≤ 8 * zs.length ∧ N = tk zs 0 1 ∧ p1 = 1 ∧ f1 = 0) ∨ (zs.length = 0 ∧ N = 0 ∧ p1 = 0 ∧ f1 ≠ 0)) (h2 : Cq zs p1 f1 n p f) : Hd zs (N == 1) n p f := by
  rcases h1 with ⟨a1, rfl, rfl, rfl⟩ | ⟨a1, rfl, rfl, a4⟩
  · rcases h2 with ⟨b1, b2⟩ | ⟨_, rfl, q, c1, c2, c3, c4, c5⟩
    · refine .inr ⟨b1, fun h n d hp => ?_⟩
      obtain ⟨r, _⟩ := hp.read
      have := b2 rfl _ r.zero r.q63
      have := r.fits
      omega
    · exact .inl ⟨rfl, q, a1, rfl, c1, c2, by omega, c4, by omega⟩
  · rcases h2 with ⟨b1, b2⟩ | ⟨b1, _⟩
    · refine .inr ⟨b1, fun h n d hp => ?_⟩
      obtain ⟨r, _⟩ := hp.read
      have := r.one
      omega
    · exact absurd b1 a4
theorem hd_fin {zs : List Nat} {h : Bool} {n p : Nat} {f E : Int} {m : Nat} (hz : ∀ z ∈ zs, z ≤ 255) (hd : Hd zs h n p f) (hm : m = if h then 0 else (8 * zs.length - p) / 8) (he : Eq zs (pos f p m) f E) :
    (E = 0 → m ≤ 200 → Pk zs h n (gth zs f p m)) ∧ (E ≠ 0 ∨ 200 < m → ∀ h n d, ¬ Pk zs h n d) := by
  rcases hd with ⟨rfl, q, a1, a2, a3, a4, a5, a6, rfl⟩ | ⟨hf, hno⟩
  · have e1 : pos 0 (2 + 2 * q) m = 2 + 2 * q + 8 * m := if_pos rfl
    rw [e1] at he
    have he2 := he.2 rfl
    have hm3 : 2 + 2 * q + 8 * m ≤ 8 * zs.length := by rw [hm]; split <;> omega
    have hrd : 8 * zs.length < 2 + 2 * q + 8 * m + 8 → (∀ k, 2 + 2 * q + 8 * m ≤ k → k < 8 * zs.length → rbit zs k = 0) → Read zs h q n m := fun t1 t2 => ⟨a1, a2, a3, a4, a5, a6, t1, hm3, t2⟩
    refine ⟨fun hE hm2 => ?_, fun hE h' n' d' hp => ?_⟩
    · obtain ⟨t1, t2⟩ := he2.1 hE
      rw [gth_zero]
      exact (hrd t1 t2).pk hz hm2 (fun x => by rw [hm, if_pos x])
    · obtain ⟨r, _⟩ := hp.read
      have hq : q = kz n' := a3.unique r.zero
      have hh : h = h' := a2.symm.trans r.kind
      have r1 := r.tail
      have r2 := r.inn
      have hmm : m = d'.length := by
        rw [hm]
        split
        · rename_i x
          rw [hp.1.none_ (hh.symm.trans x)]; rfl
        · omega
      have hfew := hp.1.few
      rcases hE with x | x
      · refine x (he2.2 ⟨by omega, fun k k1 k2 => r.rest k (by omega) k2⟩)
      · omega
  · exact ⟨fun hE _ => absurd hE (he.1 hf), fun _ => hno⟩
theorem by_keep {B B' : Nat} {w w' : World} {A : Option Addr} {n cap : Nat} {zs : List Nat} (h : By B w A n cap zs) (hB : B ≤ B') (hk : ∀ a, A = some a → w'.heap[a.block]? = w.heap[a.block]?) : By B' w' A n cap zs :=
  ⟨h.len, h.le, h.max, h.nil, h.byte, fun hn => by
    obtain ⟨g, off, hA, hg, hc⟩ := h.cell hn
    exact ⟨g, off, hA, by omega, fun j hj => (World.cell?_of_block (a := ⟨g, off + j, none⟩) (show w'.heap[g]? = w.heap[g]? from hk ⟨g, off, none⟩ hA)).trans (hc j hj)⟩⟩
/-- In the middle of Take: the reader, and ahead of it the blocks of the answer and of the packet. -/
structure Tx (w w' : World) (R P b : Nat) (zs : List Nat) (p : Nat) (f : Int) (x y z : Value) : Prop where
  rd : Rb w' (P + 1) w' b zs p f
  below : Below w.heap.size w w'
  base : w.heap.size ≤ R ∧ R < P
  res : w'.heap[R]? = some (.cells #[.bool false, .int .u64 0, .slice none 0 0] 48 (0, 0))
  box : w'.heap[P]? = some (.cells #[x, y, z] 48 (0, 0))
section
variable {w w' w2 : World} {R P b : Nat} {zs : List Nat} {p p2 : Nat} {f f2 : Int} {x y z : Value}
theorem Tx.next (h : Tx w w' R P b zs p f x y z) (hr : Rb w' (P + 1) w2 b zs p2 f2) : Tx w w2 R P b zs p2 f2 x y z := by
  obtain ⟨C, v, h1, h2, h3⟩ := hr
  have hb := h.base
  exact ⟨⟨C, v, h1, h2, Below.refl _ _⟩, h.below.trans (h3.mono (by omega)), hb, (h3.block R (by omega)).trans h.res, (h3.block P (by omega)).trans h.box⟩
theorem Tx.cells (h : Tx w w' R P b zs p f x y z) : (w'.cell? ⟨P, 0, none⟩ = some x ∧ w'.cell? ⟨P, 1, none⟩ = some y ∧ w'.cell? ⟨P, 2, none⟩ = some z) ∧ (∀ j, w'.frozen? ⟨P, j, none⟩ = false) ∧ (∀ j, w'.frozen? ⟨R, j, none⟩ = false) ∧ w'.cell? ⟨R, 0, none⟩ = some (.bool false) ∧ w'.cell? ⟨R, 1, none⟩ = some (.int .u64 0) ∧ w'.cell? ⟨R, 2, none⟩ = some (.slice none 0 0) :=
  ⟨⟨by rw [cell_of_row _ P 0 _ _ _ h.box]; rfl, by rw [cell_of_row _ P 1 _ _ _ h.box]; rfl, by rw [cell_of_row _ P 2 _ _ _ h.box]; rfl⟩, fun j => frozen_of_row _ P j _ _ h.box, fun j => frozen_of_row _ R j _ _ h.res, by rw [cell_of_row _ R 0 _ _ _ h.res]; rfl, by rw [cell_of_row _ R 1 _ _ _ h.res]; rfl, by rw [cell_of_row _ R 2 _ _ _ h.res]; rfl⟩
theorem Tx.putAt (h : Tx w w' R P b zs p f x y z) (j : Nat) (u x2 y2 z2 : Value) (he : (#[x, y, z] : Array Value).set! j u = #[x2, y2, z2]) : Tx w (w'.setCell ⟨P, j, none⟩ u) R P b zs p f x2 y2 z2 := by
  obtain ⟨C, v, h1, h2, h3⟩ := h.rd
  have hb := h.base
  refine ⟨⟨C, v, h1.frame (fun k hk => Below.heap_setCell _ _ _ _ (by have := (h1.lt hk).1; show k ≠ P; omega)), h2, Below.refl _ _⟩, h.below.setCell (by show w.heap.size ≤ P; omega) _, hb, ?_, ?_⟩
  · rw [Below.heap_setCell _ _ _ _ (by show R ≠ P; omega)]; exact h.res
  · rw [heap_setCell_same w' P j _ _ _ h.box]
    first | rw [he] | (simp only [he]) | (rw [← he]; simp)
theorem Tx.drew (h : Tx w w' R P b zs p f x y z) : Tx w w'.drew R P b zs p f x y z := by
  obtain ⟨C, v, h1, h2, h3⟩ := h.rd
  exact ⟨⟨C, v, h1.drew, h2, Below.refl _ _⟩, h.below.drew, h.base, h.res, h.box⟩
end
end Ln
end Go.Proofs.YtobpinelhjpfgaaDoor
end

section
namespace Go.Proofs.YtobpinelhjpfgaaDoor
namespace Ln
open Go.RowKit Bp Ck
theorem pkt_row (w : World) : (w.alloc (.cells #[.bool false, .int .u64 0, .slice none 0 0] 48)).heap[w.heap.size]? = some (.cells #[.bool false, .int .u64 0, .slice none 0 0] 48 (0, 0)) := heap_alloc_new w _
theorem pkt_below (w : World) : Below w.heap.size w (w.alloc (.cells #[.bool false, .int .u64 0, .slice none 0 0] 48)) := (Below.refl _ _).alloc (Nat.le_refl _) _
theorem pkt_size (w : World) : (w.alloc (.cells #[.bool false, .int .u64 0, .slice none 0 0] 48)).heap.size = w.heap.size + 1 := by simp
theorem res_cells {w : World} {R : Nat} (h : w.heap[R]? = some (.cells #[.bool false, .int .u64 0, .slice none 0 0] 48 (0, 0))) : w.cell? ⟨R, 0, none⟩ = some (.bool false) ∧ w.cell? ⟨R, 1, none⟩ = some (.int .u64 0) ∧ w.cell? ⟨R, 2, none⟩ = some (.slice none 0 0) ∧ w.frozen? ⟨R, 0, none⟩ = false ∧ w.frozen? ⟨R, 1, none⟩ = false ∧ w.frozen? ⟨R, 2, none⟩ = false :=
  ⟨by rw [cell_of_row _ R 0 _ _ _ h]; rfl, by rw [cell_of_row _ R 1 _ _ _ h]; rfl, by rw [cell_of_row _ R 2 _ _ _ h]; rfl, frozen_of_row _ R 0 _ _ h, frozen_of_row _ R 1 _ _ h, frozen_of_row _ R 2 _ _ h⟩
theorem set3 {w1 : World} {R : Nat} {a b c : Value} {t : TypeId} (h : w1.heap[R]? = some (.cells #[a, b, c] t (0, 0))) (u v z : Value) : (((w1.setCell ⟨R, 0, none⟩ u).setCell ⟨R, 1, none⟩ v).setCell ⟨R, 2, none⟩ z).heap[R]? = some (.cells #[u, v, z] t (0, 0)) := by
  have h1 := heap_setCell_same w1 R 0 _ _ u h
  have h2 := heap_setCell_same _ R 1 _ _ v h1
  have h3 := heap_setCell_same _ R 2 _ _ z h2
  rw [h3]; simp
theorem Tryd.resT : Tryd.f41.results = #[.cell 2 48, .tmp 3] := by kernel_rfl
theorem Tryd.cellsP : Tryd.prog.cellsOf 48 = 3 := by kernel_rfl
theorem ret_pkt {w : World} {R : Nat} {x y z : Value} (tmps : Array Value) (ht : tmps.getD 2 undef = .pointer (some ⟨R, 0, none⟩)) (h0 : w.cell? ⟨R, 0, none⟩ = some x) (h1 : w.cell? ⟨R, 1, none⟩ = some y) (h2 : w.cell? ⟨R, 2, none⟩ = some z) :
    (results Tryd.f41 tmps).run Tryd.prog w = .ok (.tuple #[.agg #[x, y, z], tmps.getD 3 undef]) w := by
  rw [results_cell_tmp Tryd.resT, ht]
  simp [go_sem, asAddr, Result.andThen, loadVar, h0, h1, h2]
theorem pkt_cells {w : World} {R : Nat} {x y z : Value} (h : w.heap[R]? = some (.cells #[x, y, z] 48 (0, 0))) : w.cell? ⟨R, 0, none⟩ = some x ∧ w.cell? ⟨R, 1, none⟩ = some y ∧ w.cell? ⟨R, 2, none⟩ = some z :=
  ⟨by rw [cell_of_row _ R 0 _ _ _ h]; rfl, by rw [cell_of_row _ R 1 _ _ _ h]; rfl, by rw [cell_of_row _ R 2 _ _ _ h]; rfl⟩
/-- No frame. -/
theorem take_no {B : Nat} {w : World} {A : Option Addr} {n cap : Nat} {bs : List Nat} (h : By B w A n cap bs) (hB : B ≤ w.heap.size) (hf : isFrm bs = false) :
    Calls Tryd.prog 41 #[.slice A n cap] w (TakeTold w bs) := by
  have hb0 := pkt_below w
  have hs0 := pkt_size w
  have HO := Lib.hid (open_no (h.below (hb0.mono hB)) (Nat.le_trans hB hb0.size) hf)
  have HB0 := Lib.hid hb0
  have HS0 := Lib.hid hs0
  have HR0 := Lib.hid (pkt_row w)
  have HN : Hid (∀ h n d, ¬ Is bs h n d) := Lib.hid (fun h n d hi => by have := hi.pk.1; rw [hf] at this; cases this)
  clear h hf hb0 hs0
  go_enter Tryd.func41, Tryd.ntmps41
  go_wp2_with fail
  refine HO.out.mono ?_
  rintro e w1 ⟨rfl, hb1⟩
  have hr1 : w1.heap[w.heap.size]? = _ := (hb1.block w.heap.size (by rw [HS0.out]; omega)).trans HR0.out
  obtain ⟨c0, c1, c2, f0, f1, f2⟩ := res_cells hr1
  have HB1 : Hid (Below w.heap.size w w1) := Lib.hid (HB0.out.trans (hb1.mono HB0.out.size))
  clear hb1
  go_wp2_with fail
  have hset : ∀ (u v z : Value), (((w1.setCell ⟨w.heap.size, 0, none⟩ u).setCell ⟨w.heap.size, 1, none⟩ v).setCell ⟨w.heap.size, 2, none⟩ z).heap[w.heap.size]? = some (.cells #[u, v, z] 48 (0, 0)) := fun u v z => set3 hr1 u v z
  have hset0 := hset (.bool false) (.int .u64 0) (.slice none 0 0)
  have HBF : Hid (Below w.heap.size w (((w1.setCell ⟨w.heap.size, 0, none⟩ (.bool false)).setCell ⟨w.heap.size, 1, none⟩ (.int .u64 0)).setCell ⟨w.heap.size, 2, none⟩ (.slice none 0 0))) := Lib.hid (((HB1.out.setCell (p := ⟨w.heap.size, 0, none⟩) (Nat.le_refl _) _).setCell (p := ⟨w.heap.size, 1, none⟩) (Nat.le_refl _) _).setCell (p := ⟨w.heap.size, 2, none⟩) (Nat.le_refl _) _)
  clear hset
  generalize (((w1.setCell ⟨w.heap.size, 0, none⟩ (.bool false)).setCell ⟨w.heap.size, 1, none⟩ (.int .u64 0)).setCell ⟨w.heap.size, 2, none⟩ (.slice none 0 0)) = w9 at *
  obtain ⟨d0, d1, d2, g0, g1, g2⟩ := res_cells hset0
  clear c0 c1 c2 f0 f1 f2 hr1 HB1 hset0 g0 g1 g2
  try simp only [Exit.inBlock, Exit.then]
  refine bodyPost_ret (ret_pkt _ rfl d0 d1 d2) rfl ?_
  exact ⟨HBF.out, .inr ⟨HN.out, rfl⟩⟩
set_option maxHeartbeats 4000000 in
theorem take_yes {B : Nat} {w : World} {A : Option Addr} {n cap : Nat} {bs : List Nat} (h : By B w A n cap bs) (hB : B ≤ w.heap.size) (hf : isFrm bs = true) :
    Calls Tryd.prog 41 #[.slice A n cap] w (TakeTold w bs) := by
  have hb0 := pkt_below w
  have hs0 := pkt_size w
  have hln := h.len
  have hfl := isFrm_len hf
  have HO := Lib.hid (open_yes (h.below (hb0.mono hB)) (Nat.le_trans hB hb0.size) hf)
  have HB0 := Lib.hid hb0
  have HS0 := Lib.hid hs0
  have HR0 := Lib.hid (pkt_row w)
  have HI : Hid ((inn bs).length ≤ 1000 ∧ (inn bs).length = n - 4 ∧ ∀ z ∈ inn bs, z ≤ 255) := Lib.hid ⟨by rw [inn_len bs hfl.1]; omega, by rw [inn_len bs hfl.1, hln], fun z hz => h.byte z (by unfold inn at hz; exact List.mem_of_mem_drop (List.mem_of_mem_take hz))⟩
  have HPK : Hid (∀ h n d, Pk (inn bs) h n d → Is bs h n d) := Lib.hid (fun _ _ _ hp => hp.is (fun z hz => h.byte z hz) hf)
  have HNO : Hid ((∀ h n d, ¬ Pk (inn bs) h n d) → ∀ h n d, ¬ Is bs h n d) := Lib.hid (fun hn h n d hi => hn h n d hi.pk.2)
  have hn4 : n - 4 ≤ 1000 := by omega
  clear h hf hb0 hs0 hfl hln
  generalize inn bs = zs at *
  generalize n - 4 = N at *
  go_enter Tryd.func41, Tryd.ntmps41
  go_wp2_with fail
  refine HO.out.mono ?_
  rintro e w1 ⟨A1, rfl, hy1, hne1, hb1⟩
  have hr1 : w1.heap[w.heap.size]? = _ := (hb1.block w.heap.size (by rw [HS0.out]; omega)).trans HR0.out
  have HR1 := Lib.hid hr1
  have HS1 : Hid (w.heap.size < w1.heap.size) := Lib.hid (by have := hb1.size; have := HS0.out; omega)
  have HB1 : Hid (Below w.heap.size w w1) := Lib.hid (HB0.out.trans (hb1.mono HB0.out.size))
  have HN1 : Hid (BytesAt (w1.alloc (.cells #[.bool false, .int .u64 0, .slice none 0 0] 48)) (.slice A1 N N) zs) := Lib.hid ((hy1.below (pkt_below w1)).bytesAt)
  have HP1 := Lib.hid (pkt_row w1)
  have HQ1 := Lib.hid (pkt_below w1)
  have hz1 := pkt_size w1
  have HZ1 := Lib.hid hz1
  clear hb1 hy1 hne1 HO hr1
  go_wp2_with fail
  refine (rb_make _ zs _ _ (Below.refl _ _) HN1.out (by have := HI.out.1; omega) HI.out.2.2).mono ?_
  rintro e w2 ⟨rb, rfl, hR⟩
  have ht2 : Tx w w2 w.heap.size w1.heap.size rb zs 0 0 (.bool false) (.int .u64 0) (.slice none 0 0) := by
    rw [HZ1.out] at hR
    obtain ⟨C, v, r1, r2, r3⟩ := hR
    exact ⟨⟨C, v, r1, r2, Below.refl _ _⟩, (HB1.out.trans (HQ1.out.mono (Nat.le_of_lt HS1.out))).trans (r3.mono (by have := HS1.out; omega)), ⟨Nat.le_refl _, HS1.out⟩, ((r3.block _ (by have := HS1.out; omega)).trans (HQ1.out.block _ HS1.out)).trans HR1.out, (r3.block _ (by omega)).trans HP1.out⟩
  have HT2 := Lib.hid ht2
  clear ht2 hR HN1 HP1 HQ1 HB1 hz1 HZ1 HR1 HB0 HS0 HR0
  go_wp2_with fail
  refine (rb_get1 HT2.out.rd).mono ?_
  rintro e w3 ⟨N3, p3, f3, rfl, hR3, hg3⟩
  have HT3 := Lib.hid (HT2.out.next hR3)
  have HG3 := Lib.hid hg3
  obtain ⟨⟨c0, c1, c2⟩, c3, c4, c5, c6, c7⟩ := (HT2.out.next hR3).cells
  have c30 := c3 0
  clear hR3 hg3 HT2 c3 c4
  go_wp2_with fail
  have hk : ((N3 : Int) == 1) = (N3 == 1) := beq_nat N3 1
  rw [hk]
  have HT4 := Lib.hid (HT3.out.putAt 0 (.bool (N3 == 1)) (.bool (N3 == 1)) _ _ rfl)
  clear HT3 hk c0 c1 c2 c5 c6 c7 c30
  refine (rb_count1 HT4.out.rd).mono ?_
  rintro e w5 ⟨n5, p5, f5, rfl, hR5, hg5⟩
  have HD5 := Lib.hid (hd_of HG3.out hg5)
  have ht5 := HT4.out.next hR5
  obtain ⟨⟨c0, c1, c2⟩, c3, c4, c5, c6, c7⟩ := ht5.cells
  have c31 := c3 1
  have HT5 := Lib.hid ht5
  clear hR5 hg5 HT4 HG3 c3 c4 ht5
  generalize (N3 == 1) = h at *
  cases h
  · go_wp2_with fail
    have HT6 := Lib.hid (HT5.out.putAt 1 (.int .u64 (n5 : Int)) _ (.int .u64 (n5 : Int)) _ rfl)
    refine (rb_left_any rb zs p5 f5 _ _ _ HT6.out.rd).mono ?_
    rintro e w6 ⟨rfl, rfl⟩
    have ht7 := HT6.out.drew
    obtain ⟨m8, hm8⟩ : ∃ m8, m8 = (8 * zs.length - p5) / 8 := ⟨_, rfl⟩
    have hple : p5 ≤ 8 * zs.length := ht7.rd.at_le.1
    have hM : ((zs.length : Int) * 8 - (p5 : Int)) / 8 = (m8 : Int) := by omega
    have HMM : Hid (m8 = if (false : Bool) then 0 else (8 * zs.length - p5) / 8) := Lib.hid (by simpa using hm8)
    have hm8le : m8 ≤ 1000 := by have := HI.out.1; omega
    have hm8in : f5 = 0 → p5 + 8 * m8 ≤ 8 * zs.length := fun _ => by omega
    have HIN := Lib.hid hm8in
    have hlz := HI.out.1
    have hx0 : (0 : Int) ≤ (zs.length : Int) * 8 - (p5 : Int) := by omega
    have hx1 : (zs.length : Int) * 8 - (p5 : Int) ≤ 8000 := by omega
    generalize hX : (zs.length : Int) * 8 - (p5 : Int) = X at *
    have HT7 := Lib.hid ht7
    clear HT5 HT6 ht7 hm8 hm8in hple hX hlz c0 c1 c2 c5 c6 c7 c31
    go_wp2_with fail
    refine (gather_any (m := m8) HT7.out.rd HIN.out (by omega) (by first | exact hM | (rw [← hM]; rfl) | omega)).mono ?_
    rintro e w8a ⟨g8, rfl, hy8, ⟨C8, v8, hr8, hc8, hbl8, hrf8⟩, hg8, hg8lt⟩
    have ht8a := HT7.out.next ⟨C8, v8, hr8, hc8, hbl8⟩
    obtain ⟨⟨c0, c1, c2⟩, c3, c4, c5, c6, c7⟩ := ht8a.cells
    have c32 := c3 2
    have hlt8 := hy8
    have HT8 := Lib.hid (ht8a.putAt 2 (.slice (some ⟨g8, 0, none⟩) m8 m8) _ _ (.slice (some ⟨g8, 0, none⟩) m8 m8) rfl)
    have hPC := hc8
    have HRD : Hid (Rd C8 (w8a.setCell ⟨w1.heap.size, 2, none⟩ (.slice (some ⟨g8, 0, none⟩) m8 m8)) rb v8 zs (pos f5 p5 m8) f5) := Lib.hid (hr8.frame (fun k hk => Below.heap_setCell _ _ _ _ (by have := (hr8.lt hk).1; show k ≠ w1.heap.size; omega)))
    have HCP := Lib.hid hc8
    have hsz8 : w8a.heap.size ≤ (w8a.setCell ⟨w1.heap.size, 2, none⟩ (.slice (some ⟨g8, 0, none⟩) m8 m8)).heap.size := by simp
    have HY8 := Lib.hid (by_keep (w' := (w8a.setCell ⟨w1.heap.size, 2, none⟩ (.slice (some ⟨g8, 0, none⟩) m8 m8))) hy8 hsz8 (fun a ha => Below.heap_setCell _ _ _ _ (by cases ha; show g8 ≠ w1.heap.size; omega)))
    have HA8 : Hid (∀ a, (some ⟨g8, 0, none⟩ : Option Addr) = some a → a.block < (w8a.setCell ⟨w1.heap.size, 2, none⟩ (.slice (some ⟨g8, 0, none⟩) m8 m8)).heap.size ∧ w.heap.size < a.block ∧ ¬ RF rb v8 a.block) := Lib.hid (fun a ha => by
      cases ha
      refine ⟨?_, by have := HS1.out; show _ < g8; omega, fun x => hrf8 _ x rfl⟩
      have := hg8lt
      simpa using this)
    clear hsz8 ht8a hr8 hc8 hbl8 hrf8 hg8 hg8lt hy8 hlt8 hPC HT7 c3 c4
    go_wp2_with fail
    refine (rd_end1 HRD.out).mono ?_
    rintro e w9 ⟨E, rfl, hR9, hE⟩
    have HF := Lib.hid (hd_fin HI.out.2.2 HD5.out HMM.out hE)
    have ht9 := HT8.out.next (Rb.to HRD.out HCP.out (Below.refl _ _) hR9)
    have HY9 := Lib.hid (by_keep HY8.out hR9.2.size (fun a ha => hR9.2.block _ (HA8.out a ha).1 (fun x => (HA8.out a ha).2.2 x)))
    obtain ⟨⟨c0, c1, c2⟩, c3, c4, c5, c6, c7⟩ := ht9.cells
    have hr9 := ht9.res
    have c40 := c4 0
    have c41 := c4 1
    have c42 := c4 2
    have HB9 := Lib.hid ht9.below
    have HSZ := Lib.hid ht9.base
    clear hR9 hE HRD HT8 HY8 c3 c4 ht9 HD5
    have hset : ∀ (u v z : Value), (((w9.setCell ⟨w.heap.size, 0, none⟩ u).setCell ⟨w.heap.size, 1, none⟩ v).setCell ⟨w.heap.size, 2, none⟩ z).heap[w.heap.size]? = some (.cells #[u, v, z] 48 (0, 0)) := fun u v z => set3 hr9 u v z
    have hbel : ∀ (u v z : Value), Below w.heap.size w (((w9.setCell ⟨w.heap.size, 0, none⟩ u).setCell ⟨w.heap.size, 1, none⟩ v).setCell ⟨w.heap.size, 2, none⟩ z) := fun u v z => ((HB9.out.setCell (p := ⟨w.heap.size, 0, none⟩) (Nat.le_refl _) _).setCell (p := ⟨w.heap.size, 1, none⟩) (Nat.le_refl _) _).setCell (p := ⟨w.heap.size, 2, none⟩) (Nat.le_refl _) _
    have hoth : ∀ (u v z : Value) (k : Nat), k ≠ w.heap.size → (((w9.setCell ⟨w.heap.size, 0, none⟩ u).setCell ⟨w.heap.size, 1, none⟩ v).setCell ⟨w.heap.size, 2, none⟩ z).heap[k]? = w9.heap[k]? := fun u v z k hk => by
      rw [Below.heap_setCell _ _ _ _ hk, Below.heap_setCell _ _ _ _ hk, Below.heap_setCell _ _ _ _ hk]
    have hsiz : ∀ (u v z : Value), w9.heap.size ≤ (((w9.setCell ⟨w.heap.size, 0, none⟩ u).setCell ⟨w.heap.size, 1, none⟩ v).setCell ⟨w.heap.size, 2, none⟩ z).heap.size := fun u v z => by simp
    have HSET := Lib.hid hset
    have HBEL := Lib.hid hbel
    have HOTH := Lib.hid hoth
    have HSIZ := Lib.hid hsiz
    clear hset hbel hoth hsiz
    by_cases hE0 : E = 0
    · subst hE0
      by_cases h200 : m8 ≤ 200
      · have e200 : decide ((200 : Int) < (m8 : Int)) = false := decide_eq_false (by omega)
        go_wp2_with fail
        have k1 := HSET.out (.bool false) (.int .u64 (n5 : Int)) (.slice (some ⟨g8, 0, none⟩) m8 m8)
        have k2 := Lib.hid (HBEL.out (.bool false) (.int .u64 (n5 : Int)) (.slice (some ⟨g8, 0, none⟩) m8 m8))
        have HYF := Lib.hid (by_keep HY9.out (HSIZ.out (.bool false) (.int .u64 (n5 : Int)) (.slice (some ⟨g8, 0, none⟩) m8 m8)) (fun a ha => HOTH.out (.bool false) (.int .u64 (n5 : Int)) (.slice (some ⟨g8, 0, none⟩) m8 m8) _ (Nat.ne_of_gt (HA8.out a ha).2.1)))
        generalize (((w9.setCell ⟨w.heap.size, 0, none⟩ (.bool false)).setCell ⟨w.heap.size, 1, none⟩ (.int .u64 (n5 : Int))).setCell ⟨w.heap.size, 2, none⟩ (.slice (some ⟨g8, 0, none⟩) m8 m8)) = wf at *
        obtain ⟨d0, d1, d2⟩ := pkt_cells k1
        clear c0 c1 c2 c5 c6 c7 c40 c41 c42 hr9 k1 HSET HBEL HOTH HSIZ HB9 HY9
        try simp only [Exit.inBlock, Exit.then]
        refine bodyPost_ret (ret_pkt _ rfl d0 d1 d2) rfl ?_
        refine ⟨k2.out, .inl ⟨false, n5, gth zs f5 p5 m8, (some ⟨g8, 0, none⟩), m8, HPK.out _ _ _ (HF.out.1 (by first | rfl | trivial) (by first | exact h200 | trivial)), ?_, ?_, fun a ha => Nat.le_of_lt (HA8.out a ha).2.1⟩⟩
        · rw [gth_length]; rfl
        · rw [gth_length]; exact HYF.out
      · have e200 : decide ((200 : Int) < (m8 : Int)) = true := decide_eq_true (by omega)
        have HNI := Lib.hid (HNO.out (HF.out.2 (.inr (by omega))))
        go_wp2_with fail
        have k1 := HSET.out (.bool false) (.int .u64 0) (.slice none 0 0)
        have k2 := Lib.hid (HBEL.out (.bool false) (.int .u64 0) (.slice none 0 0))
        generalize (((w9.setCell ⟨w.heap.size, 0, none⟩ (.bool false)).setCell ⟨w.heap.size, 1, none⟩ (.int .u64 0)).setCell ⟨w.heap.size, 2, none⟩ (.slice none 0 0)) = wf at *
        obtain ⟨d0, d1, d2⟩ := pkt_cells k1
        clear c0 c1 c2 c5 c6 c7 c40 c41 c42 hr9 k1 HSET HBEL HOTH HSIZ HB9 HY9
        try simp only [Exit.inBlock, Exit.then]
        refine bodyPost_ret (ret_pkt _ rfl d0 d1 d2) rfl ?_
        exact ⟨k2.out, .inr ⟨HNI.out, rfl⟩⟩
    · have hE1 : (E != 0) = true := by simpa using hE0
      have HNI := Lib.hid (HNO.out (HF.out.2 (.inl hE0)))
      go_wp2_with fail
      have k1 := HSET.out (.bool false) (.int .u64 0) (.slice none 0 0)
      have k2 := Lib.hid (HBEL.out (.bool false) (.int .u64 0) (.slice none 0 0))
      generalize (((w9.setCell ⟨w.heap.size, 0, none⟩ (.bool false)).setCell ⟨w.heap.size, 1, none⟩ (.int .u64 0)).setCell ⟨w.heap.size, 2, none⟩ (.slice none 0 0)) = wf at *
      obtain ⟨d0, d1, d2⟩ := pkt_cells k1
      clear c0 c1 c2 c5 c6 c7 c40 c41 c42 hr9 k1 HSET HBEL HOTH HSIZ HB9 HY9
      try simp only [Exit.inBlock, Exit.then]
      refine bodyPost_ret (ret_pkt _ rfl d0 d1 d2) rfl ?_
      exact ⟨k2.out, .inr ⟨HNI.out, rfl⟩⟩
  · go_wp2_with fail
    have ht6 := (HT5.out.putAt 1 (.int .u64 (n5 : Int)) _ (.int .u64 (n5 : Int)) _ rfl)
    have e0 : pos f5 p5 0 = p5 := by
      unfold pos
      split <;> rfl
    rw [← e0] at ht6
    obtain ⟨C8, v8, hr8, hc8, hbl8⟩ := ht6.rd
    have HRD := Lib.hid hr8
    have HCP := Lib.hid hc8
    have HT8 := Lib.hid ht6
    have HMM : Hid (0 = if (true : Bool) then 0 else (8 * zs.length - p5) / 8) := Lib.hid rfl
    have HA8 : Hid (∀ a, (none : Option Addr) = some a → a.block < (w5.setCell ⟨w1.heap.size, 1, none⟩ (.int .u64 (n5 : Int))).heap.size ∧ w.heap.size < a.block ∧ ¬ RF rb v8 a.block) := Lib.hid (fun a ha => by cases ha)
    have hg0 : gth zs f5 p5 0 = [] := rfl
    have HY8 : Hid (By (w5.setCell ⟨w1.heap.size, 1, none⟩ (.int .u64 (n5 : Int))).heap.size (w5.setCell ⟨w1.heap.size, 1, none⟩ (.int .u64 (n5 : Int))) none 0 0 (gth zs f5 p5 0)) := Lib.hid (By.none_ _ _)
    clear hr8 hc8 hbl8 ht6 hg0 e0 HT5 c0 c1 c2 c5 c6 c7 c31
    refine (rd_end1 HRD.out).mono ?_
    rintro e w9 ⟨E, rfl, hR9, hE⟩
    have HF := Lib.hid (hd_fin HI.out.2.2 HD5.out HMM.out hE)
    have ht9 := HT8.out.next (Rb.to HRD.out HCP.out (Below.refl _ _) hR9)
    have HY9 := Lib.hid (by_keep HY8.out hR9.2.size (fun a ha => hR9.2.block _ (HA8.out a ha).1 (fun x => (HA8.out a ha).2.2 x)))
    obtain ⟨⟨c0, c1, c2⟩, c3, c4, c5, c6, c7⟩ := ht9.cells
    have hr9 := ht9.res
    have c40 := c4 0
    have c41 := c4 1
    have c42 := c4 2
    have HB9 := Lib.hid ht9.below
    have HSZ := Lib.hid ht9.base
    clear hR9 hE HRD HT8 HY8 c3 c4 ht9 HD5
    have hset : ∀ (u v z : Value), (((w9.setCell ⟨w.heap.size, 0, none⟩ u).setCell ⟨w.heap.size, 1, none⟩ v).setCell ⟨w.heap.size, 2, none⟩ z).heap[w.heap.size]? = some (.cells #[u, v, z] 48 (0, 0)) := fun u v z => set3 hr9 u v z
    have hbel : ∀ (u v z : Value), Below w.heap.size w (((w9.setCell ⟨w.heap.size, 0, none⟩ u).setCell ⟨w.heap.size, 1, none⟩ v).setCell ⟨w.heap.size, 2, none⟩ z) := fun u v z => ((HB9.out.setCell (p := ⟨w.heap.size, 0, none⟩) (Nat.le_refl _) _).setCell (p := ⟨w.heap.size, 1, none⟩) (Nat.le_refl _) _).setCell (p := ⟨w.heap.size, 2, none⟩) (Nat.le_refl _) _
    have hoth : ∀ (u v z : Value) (k : Nat), k ≠ w.heap.size → (((w9.setCell ⟨w.heap.size, 0, none⟩ u).setCell ⟨w.heap.size, 1, none⟩ v).setCell ⟨w.heap.size, 2, none⟩ z).heap[k]? = w9.heap[k]? := fun u v z k hk => by
      rw [Below.heap_setCell _ _ _ _ hk, Below.heap_setCell _ _ _ _ hk, Below.heap_setCell _ _ _ _ hk]
    have hsiz : ∀ (u v z : Value), w9.heap.size ≤ (((w9.setCell ⟨w.heap.size, 0, none⟩ u).setCell ⟨w.heap.size, 1, none⟩ v).setCell ⟨w.heap.size, 2, none⟩ z).heap.size := fun u v z => by simp
    have HSET := Lib.hid hset
    have HBEL := Lib.hid hbel
    have HOTH := Lib.hid hoth
    have HSIZ := Lib.hid hsiz
    clear hset hbel hoth hsiz
    by_cases hE0 : E = 0
    · subst hE0
      have h200 : (0 : Nat) ≤ 200 := by omega
      go_wp2_with fail
      have k1 := HSET.out (.bool true) (.int .u64 (n5 : Int)) (.slice none 0 0)
      have k2 := Lib.hid (HBEL.out (.bool true) (.int .u64 (n5 : Int)) (.slice none 0 0))
      have HYF := Lib.hid (by_keep HY9.out (HSIZ.out (.bool true) (.int .u64 (n5 : Int)) (.slice none 0 0)) (fun a ha => HOTH.out (.bool true) (.int .u64 (n5 : Int)) (.slice none 0 0) _ (Nat.ne_of_gt (HA8.out a ha).2.1)))
      generalize (((w9.setCell ⟨w.heap.size, 0, none⟩ (.bool true)).setCell ⟨w.heap.size, 1, none⟩ (.int .u64 (n5 : Int))).setCell ⟨w.heap.size, 2, none⟩ (.slice none 0 0)) = wf at *
      obtain ⟨d0, d1, d2⟩ := pkt_cells k1
      clear c0 c1 c2 c5 c6 c7 c40 c41 c42 hr9 k1 HSET HBEL HOTH HSIZ HB9 HY9
      try simp only [Exit.inBlock, Exit.then]
      refine bodyPost_ret (ret_pkt _ rfl d0 d1 d2) rfl ?_
      refine ⟨k2.out, .inl ⟨true, n5, gth zs f5 p5 0, none, 0, HPK.out _ _ _ (HF.out.1 (by first | rfl | trivial) (by first | exact h200 | trivial)), ?_, ?_, fun a ha => Nat.le_of_lt (HA8.out a ha).2.1⟩⟩
      · rw [gth_length]; rfl
      · rw [gth_length]; exact HYF.out
    · have hE1 : (E != 0) = true := by simpa using hE0
      have HNI := Lib.hid (HNO.out (HF.out.2 (.inl hE0)))
      go_wp2_with fail
      have k1 := HSET.out (.bool false) (.int .u64 0) (.slice none 0 0)
      have k2 := Lib.hid (HBEL.out (.bool false) (.int .u64 0) (.slice none 0 0))
      generalize (((w9.setCell ⟨w.heap.size, 0, none⟩ (.bool false)).setCell ⟨w.heap.size, 1, none⟩ (.int .u64 0)).setCell ⟨w.heap.size, 2, none⟩ (.slice none 0 0)) = wf at *
      obtain ⟨d0, d1, d2⟩ := pkt_cells k1
      clear c0 c1 c2 c5 c6 c7 c40 c41 c42 hr9 k1 HSET HBEL HOTH HSIZ HB9 HY9
      try simp only [Exit.inBlock, Exit.then]
      refine bodyPost_ret (ret_pkt _ rfl d0 d1 d2) rfl ?_
      exact ⟨k2.out, .inr ⟨HNI.out, rfl⟩⟩
theorem take_any {B : Nat} {w : World} {A : Option Addr} {n cap : Nat} {bs : List Nat} (h : By B w A n cap bs) (hB : B ≤ w.heap.size) : Calls Tryd.prog 41 #[.slice A n cap] w (TakeTold w bs) := by
  cases hf : isFrm bs
  · exact take_no h hB hf
  · exact take_yes h hB hf
end Ln
end Go.Proofs.YtobpinelhjpfgaaDoor
end
