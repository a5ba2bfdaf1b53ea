/-
  Layer 16: bytes and their numbers; which frames stand at the beginning of a text; lists that are scanned, in new blocks.
-/
import Derived.Test.YtejldeecblppjaaDoorChkL
import Derived.Test.YtejldeecblppjaaDoorDkC
set_option linter.unusedVariables false
set_option maxRecDepth 100000
namespace Go.Proofs.YtejldeecblppjaaDoor
namespace Jr
open Go.RowKit Go.Maps Bp Ck

theorem bc_u8s (zs : List Nat) : bc zs = Nw.u8s (zs.map fun n : Nat => (n : Int)) := by simp [bc, Nw.u8s]
/-- Bytes at a slice have a text; bytes with a text are some. -/
theorem by_yb {B : Nat} {w : World} {A : Option Addr} {n cap : Nat} {zs : List Nat} (h : By B w A n cap zs) : Nw.Yb B w A n cap (strOf zs) := by
  refine ⟨zs.map fun n : Nat => (n : Int), ⟨by rw [← bc_u8s, bc_length, h.len, Nat.mul_one], h.le, h.max, h.nil, fun hn => ?_⟩, rfl, fun z hz => ?_⟩
  · obtain ⟨g, off, hA, hg, hc⟩ := h.cell hn
    refine ⟨g, off, hA, hg, fun j hj => ?_⟩
    rw [Nat.mul_one] at hj
    rw [hc j hj, ← bc_u8s]
    have hl : j < zs.length := by rw [h.len]; exact hj
    simp [bc, List.getD, List.getElem?_eq_getElem hl]
  · obtain ⟨y, hy, rfl⟩ := List.mem_map.1 hz
    have := h.byte y hy
    omega
theorem yb_by {B : Nat} {w : World} {A : Option Addr} {n cap : Nat} {s : ByteArray} (h : Nw.Yb B w A n cap s) : ∃ zs : List Nat, By B w A n cap zs ∧ strOf zs = s := by
  obtain ⟨l, hg, hs, hr⟩ := h
  have e : (l.map Int.toNat).map (fun n : Nat => (n : Int)) = l := by
    rw [List.map_map]
    conv => rhs; rw [← List.map_id l]
    apply List.map_congr_left
    intro z hz
    have := hr z hz
    simp only [Function.comp_apply, id]
    omega
  refine ⟨l.map Int.toNat, ⟨by have := hg.len; rw [List.length_map]; simpa [Nw.u8s] using this, hg.le, hg.max, hg.nil, fun z hz => ?_, fun hn => ?_⟩, ?_⟩
  · obtain ⟨y, hy, rfl⟩ := List.mem_map.1 hz
    have := hr y hy
    omega
  · obtain ⟨g, off, hA, hgB, hc⟩ := hg.cell hn
    refine ⟨g, off, hA, hgB, fun j hj => ?_⟩
    have hl : j < l.length := by have := hg.len; simp [Nw.u8s] at this; omega
    rw [hc j (by omega), Nw.u8s_get hl]
    have hb := hr _ (List.getElem_mem hl)
    simp [List.getD, List.getElem?_eq_getElem hl]
    omega
  · unfold strOf
    rw [e]; exact hs
/-- A text's numbers. -/
def nums (s : ByteArray) : List Nat := s.data.toList.map fun u : UInt8 => u.toNat
theorem nums_len (s : ByteArray) : (nums s).length = s.size := by simp [nums]
theorem nums_byte (s : ByteArray) : ∀ z ∈ nums s, z ≤ 255 := by
  intro z hz
  simp only [nums, List.mem_map] at hz
  obtain ⟨u, _, rfl⟩ := hz
  have := u.toNat_lt
  omega
theorem nums_strOf {zs : List Nat} (h : ∀ z ∈ zs, z ≤ 255) : nums (strOf zs) = zs := nums_back zs h
theorem strOf_size (zs : List Nat) : (strOf zs).size = zs.length := by unfold strOf; rw [strOfNums_size, List.length_map]
theorem nums_app (a b : ByteArray) : nums (a ++ b) = nums a ++ nums b := by
  unfold nums
  rw [ByteArray.data_append, Array.toList_append, List.map_append]
theorem nums_ext (s : ByteArray) (n : Nat) : nums (s.extract 0 n) = (nums s).take n := by
  unfold nums
  rw [Lib.extract_data]
  simp [List.map_take]
theorem yb_nums {B : Nat} {w : World} {A : Option Addr} {n cap : Nat} {s : ByteArray} (h : Nw.Yb B w A n cap s) : By B w A n cap (nums s) := by
  obtain ⟨zs, h1, rfl⟩ := yb_by h
  rw [nums_strOf h1.byte]
  exact h1
theorem scn_ex (n : Nat) : ∀ b : List Nat, b.length ≤ n → ∃ fs, Scn b fs := by
  induction n with
  | zero =>
    intro b hb
    obtain rfl : b = [] := List.eq_nil_of_length_eq_zero (by omega)
    exact ⟨[], Scn.nil_of (by decide)⟩
  | succ n ih =>
    intro b hb
    by_cases hf : isFrm (ahd b) = true
    · obtain ⟨q1, q2⟩ := isFrm_len hf
      have ha := ahd_len b
      obtain ⟨fs, hs⟩ := ih (b.drop (ahd b).length) (by rw [List.length_drop]; omega)
      refine ⟨[ahd b] ++ fs, ?_⟩
      have := Scn.ahead (gs := [ahd b]) (by intro f hf'; rw [List.mem_singleton.1 hf']; exact hf) hs
      have e : [ahd b].flatten ++ b.drop (ahd b).length = b := by
        simp only [List.flatten_cons, List.flatten_nil, List.append_nil]
        conv => rhs; rw [← List.take_append_drop (ahd b).length b, ahd_pre]
      rwa [e] at this
    · exact ⟨[], Scn.nil_of (by simpa using hf)⟩
theorem fr_ex (s : ByteArray) : ∃ fs, Scn (nums s) fs := scn_ex _ _ (Nat.le_refl _)
/-- The frames at a text's beginning. -/
noncomputable def fr (s : ByteArray) : List (List Nat) := Classical.choose (fr_ex s)
theorem fr_scn (s : ByteArray) : Scn (nums s) (fr s) := Classical.choose_spec (fr_ex s)
theorem fr_eq {s : ByteArray} {fs : List (List Nat)} (h : Scn (nums s) fs) : fr s = fs := (fr_scn s).unique h
/-- How many bytes they are. -/
noncomputable def wl (s : ByteArray) : Nat := (fr s).flatten.length
theorem wl_le (s : ByteArray) : wl s ≤ s.size := by rw [← nums_len]; exact (fr_scn s).flat_le
theorem fr_le (s : ByteArray) : 4 * (fr s).length ≤ wl s := by
  have h := (fr_scn s).each
  unfold wl
  generalize fr s = fs at h
  induction fs with
  | nil => simp
  | cons f fs ih =>
    have h1 := isFrm_len (h f (by simp))
    have h2 := ih (fun g hg => h g (List.mem_cons_of_mem _ hg))
    simp only [List.flatten_cons, List.length_append, List.length_cons]
    omega
/-! ### Lists in new blocks -/
/-- As Lst: each of the slices lies in new memory, too. -/
structure LstF (base : Nat) (w : World) (v : Value) (ls : List (List Nat)) : Prop where
  row : ∃ cs : List Value, w.ownsRow base 24 1 v ls.length cs ∧ ∀ j, j < ls.length → ∃ A' n' c', cs[j]? = some (.slice A' n' c') ∧ By w.heap.size w A' n' c' (ls.getD j []) ∧ (Apart v A' n' ∧ ∀ x, A' = some x → base ≤ x.block)
theorem LstF.lst {base : Nat} {w : World} {v : Value} {ls : List (List Nat)} (h : LstF base w v ls) : Lst base w v ls := by
  obtain ⟨cs, h1, h2⟩ := h.row
  refine ⟨cs, h1, fun j hj => ?_⟩
  obtain ⟨A, n, c, k1, k2, k3, _⟩ := h2 j hj
  exact ⟨A, n, c, k1, k2, k3⟩
theorem LstF.none_ (base : Nat) (w : World) : LstF base w (.slice none 0 0) [] := ⟨[], World.ownsRow_nil _ _ _ _, fun j hj => by simp at hj⟩
theorem LstF.later {base : Nat} {w w' : World} {v : Value} {ls : List (List Nat)} (h : LstF base w v ls) (hb : Below w.heap.size w w') : LstF base w' v ls := by
  obtain ⟨cs, ho, hc⟩ := h.row
  refine ⟨cs, ownsRow_same ho (fun k hk => hb.block k (ho.lt k hk).2), fun j hj => ?_⟩
  obtain ⟨A', n', c', h1, h2, h3⟩ := hc j hj
  exact ⟨A', n', c', h1, (h2.below hb).mono hb.size, h3⟩
/-- The slices of a row lie in blocks from 'base' on. -/
def Inn (base : Nat) (w : World) (A : Option Addr) (n c : Nat) : Prop := (A = none → c = 0) ∧ (∀ x, A = some x → base ≤ x.block) ∧ ∀ g off, A = some ⟨g, off, none⟩ → ∀ j, j < n → ∀ A' n' c', w.cell? ⟨g, off + j, none⟩ = some (.slice A' n' c') → ∀ x, A' = some x → base ≤ x.block
theorem LstF.inn {base : Nat} {w : World} {A : Option Addr} {n c : Nat} {ls : List (List Nat)} (h : LstF base w (.slice A n c) ls) : Inn base w A ls.length c := by
  obtain ⟨cs, ho, hc⟩ := h.row
  refine ⟨fun hA => ?_, fun x hx => (ho.lt x.block (by rw [hx]; rfl)).1, ?_⟩
  · rcases ho.2 with ⟨q, h0⟩ | ⟨g0, cap0, cur, q, _⟩
    · injection q
    · injection q with q; rw [q] at hA; cases hA
  intro g off hA j hj A' n' c' hcell x hx
  obtain ⟨A2, n2, c2, e1, _, _, e3⟩ := hc j hj
  rcases ho.2 with ⟨q, h0⟩ | ⟨g0, cap0, cur, q, _⟩
  · injection q with q; rw [q] at hA; cases hA
  · injection q with q q2 q3
    rw [q] at hA
    simp only [Option.some.injEq, Addr.mk.injEq] at hA
    obtain ⟨rfl, rfl, _⟩ := hA
    subst q q2
    have hh := ho.cellAt j (by omega)
    rw [Nat.zero_add, hh, e1] at hcell
    simp only [Option.some.injEq, Value.slice.injEq] at hcell
    exact e3 x (hcell.1.trans hx)
/-- A slice of bytes is appended to a row of one's own. -/
theorem app_oneF {w : World} {ops : Array Oper} {rest : List Oper} {o : Oper} {a : Act} {Q : Exit → Act → World → Prop} (hgd : o.guard = none) (s x : Operand)
    (ho : o.op = .call { callee := .builtin .append, args := #[s, x], argTypes := #[45, 45] })
    (base : Nat) (v : Value) (ls : List (List Nat)) (hs : a.eval s = v) (A : Option Addr) (n c : Nat) (zs : List Nat) (w0 : World) (hw : w = w0.alloc (.cells #[.slice A n c] 24)) (hl : LstF base w0 v ls)
    (hx : a.eval x = .slice (some ⟨w0.heap.size, 0, none⟩) 1 1) (hr : By w0.heap.size w0 A n c zs) (hap : Apart v A n ∧ ∀ x, A = some x → base ≤ x.block) (hf : ls.length ≤ 1048576) (hbase : base ≤ w0.heap.size)
    (h : ∀ A' c' w', LstF base w' (.slice A' (ls.length + 1) c') (ls ++ [zs]) → Below base w0 w' → wpList Tryd.prog ops Q rest (a.put o.dst (.slice A' (ls.length + 1) c')) w') : wpList Tryd.prog ops Q (o :: rest) a w := by
  obtain ⟨i0, hi, hz0, hz1, hz2⟩ := info_parts Tryd.infoBs
  obtain ⟨cs, hown, hc⟩ := hl.row
  subst hw
  refine wpList_append_own_at _ hgd s x 45 ho base 24 i0 (.slice none 0 0) 1 24 Tryd.underlying45 hi hz0 hz1 hz2 rfl (by decide) v ls.length cs hs (hown.alloc _) ⟨w0.heap.size, 0, none⟩ 1 1 [.slice A n c] hx rfl ?_ ?_ (by unfold maxLen; omega) (by omega) (by simp; omega) ?_
  · intro j u hj
    match j, hj with
    | 0, hj => simp at hj; subst hj; simp [Addr.add]
  · intro u hu; simp at hu; subst hu; rfl
  intro v' w' h1 h2 h3 h4
  obtain ⟨A', c', hv⟩ := ownsRow_shape h1
  subst hv
  have hcl := hown.1
  have hB0 : Below base w0 w' := Below.grown ((Below.refl _ _).alloc hbase _) h2 (by simp; omega) (fun k hk => (hown.lt k hk).1)
  have hBr : ∀ {A2 n2 c2 zs2}, By w0.heap.size w0 A2 n2 c2 zs2 → (Apart v A2 n2 ∧ ∀ x, A2 = some x → base ≤ x.block) → By w'.heap.size w' A2 n2 c2 zs2 ∧ (Apart (.slice A' (ls.length + 1) c') A2 n2 ∧ ∀ x, A2 = some x → base ≤ x.block) := by
    intro A2 n2 c2 zs2 hy hpp
    obtain ⟨hp, hpb⟩ := hpp
    refine ⟨⟨hy.len, hy.le, hy.max, hy.nil, hy.byte, fun hn => ?_⟩, fun hn x hx e => ?_, hpb⟩
    · obtain ⟨g, off, hA, hg, hcell⟩ := hy.cell hn
      refine ⟨g, off, hA, Nat.lt_of_lt_of_le hg hB0.size, fun j hj => ?_⟩
      rw [World.cell?_of_block (a := ⟨g, off + j, none⟩) (h2.block g (by simp; omega) (fun e => hp hn _ hA e.symm)), World.cell?_alloc_lt _ _ _ hg]
      exact hcell j hj
    · obtain ⟨g, off, hA, hg, hcell⟩ := hy.cell hn
      rw [hA] at hx
      simp only [Option.some.injEq] at hx
      subst hx
      rcases h4 with h4 | h4
      · rw [h4] at e; exact hp hn _ hA e
      · rw [h4] at e
        simp at e
        omega
  refine h A' c' w' ⟨cs ++ [.slice A n c], by simpa using h1, fun j hj => ?_⟩ hB0
  rw [List.length_append, List.length_singleton] at hj
  rcases Nat.lt_or_ge j ls.length with hj' | hj'
  · obtain ⟨A2, n2, c2, e1, e2, e3⟩ := hc j hj'
    refine ⟨A2, n2, c2, by rw [List.getElem?_append_left (by omega)]; exact e1, ?_⟩
    have : (ls ++ [zs]).getD j [] = ls.getD j [] := by simp [List.getD, List.getElem?_append_left hj']
    rw [this]; exact hBr e2 e3
  · have hj2 : j = ls.length := by omega
    subst hj2
    refine ⟨A, n, c, by rw [List.getElem?_append_right (by omega)]; simp [hcl], ?_⟩
    have : (ls ++ [zs]).getD ls.length [] = zs := by simp [List.getD]
    rw [this]; exact hBr hr hap
/-- What Scan tells, and that the lists lie in new memory. -/
def ScanToldF (w : World) (zs : List Nat) (e : Ending) (w' : World) : Prop :=
  ∃ fs A' c', e = .returned (.tuple #[.slice A' fs.length c', .int .i64 (fs.flatten.length : Int)]) ∧ Scn zs fs ∧ Bss w'.heap.size w' A' fs.length c' (fs.map inn) ∧ Inn w.heap.size w' A' fs.length c' ∧ Below w.heap.size w w'
set_option maxHeartbeats 1000000 in
theorem scanF_any {B : Nat} {w : World} {A : Option Addr} {n cap : Nat} {zs : List Nat} (h : By B w A n cap zs) (hB : B ≤ w.heap.size) (hn : n ≤ 1048576) :
    Calls Tryd.prog 53 #[.slice A n cap] w fun e w' => ScanToldF w zs e w' := by
  have hle := h.le
  have hmx := h.max
  unfold maxLen at hmx
  have HL := Lib.hid h.len
  have HH := Lib.hid h
  clear h
  go_enter Tryd.func53, Tryd.ntmps53
  go_wp2
  go_loopw [4, 5] (fun v i wr => ∃ fs : List (List Nat), i = .int .i64 (fs.flatten.length : Int) ∧ fs.flatten.length ≤ n ∧ fs.length ≤ fs.flatten.length ∧ (∀ f ∈ fs, isFrm f = true) ∧ zs.take fs.flatten.length = fs.flatten ∧ LstF w.heap.size wr v (fs.map inn) ∧ Below w.heap.size w wr) (fun _ i _ => n - (intOf i).toNat)
  case atStart => exact ⟨[], rfl, Nat.zero_le _, Nat.le_refl _, by simp, by simp, LstF.none_ _ _, Below.refl _ _⟩
  case round =>
    obtain ⟨fs, rfl, h1, h2, h3, h4, h5, h6⟩ := hrel
    obtain ⟨vA, vc, hv, hbss⟩ := h5.lst.bss
    rw [List.length_map] at hv hbss
    subst hv
    obtain ⟨at_, hat⟩ : ∃ k, k = fs.flatten.length := ⟨_, rfl⟩
    rw [← hat] at h1 h2 h4 ⊢
    have HAt := Lib.hid hat
    have H3 := Lib.hid h3
    have H4 := Lib.hid h4
    have H5 := Lib.hid h5
    have H6 := Lib.hid h6
    have HS := Lib.hid hbss
    have hsz := h6.size
    have hs := fun wx => slice_l A n cap at_ wx h1
    have HR := Lib.hid ((HH.out.cut at_ n cap h1 (Nat.le_refl _) hle (Nat.le_refl _)).below (h6.mono hB))
    have HD : Hid ((zs.drop at_).take (n - at_) = zs.drop at_) := Lib.hid (List.take_of_length_le (by rw [List.length_drop, HL.out]; exact Nat.le_refl _))
    rw [HD.out] at HR
    clear hat h3 h4 h5 h6 hbss
    obtain ⟨r, hr⟩ : ∃ r, r = zs.drop at_ := ⟨_, rfl⟩
    rw [← hr] at HR
    have HRr : Hid (zs = fs.flatten ++ r) := Lib.hid (by rw [hr, ← H4.out, List.take_append_drop])
    have hrl : r.length = n - at_ := by rw [hr, List.length_drop, HL.out]
    have hal := ahd_len r
    clear hr HD
    go_wp2_with fail
    refine (ahead_any HR.out).mono ?_
    rintro e w1 ⟨A1, rfl, hy1, hb1⟩
    have HY1 := Lib.hid (hy1.below (hb1.mono (Nat.le_trans hB hsz)))
    have HB1 := Lib.hid (H6.out.trans (hb1.mono hsz))
    have HLst1 := Lib.hid (H5.out.later hb1)
    have hsz1 := Nat.le_trans hsz hb1.size
    have hsz1' := hb1.size
    clear hy1 hb1 HR hs
    by_cases hf : isFrm (ahd r) = true
    · obtain ⟨q1, q2⟩ := isFrm_len hf
      go_wp2_with fail
      refine (open_yes HY1.out (by omega) hf).mono ?_
      rintro e w2 ⟨A2, rfl, hy2, hap, hb2⟩
      have HY2 := Lib.hid hy2
      have HLst2 := Lib.hid (HLst1.out.later hb2)
      have HB2 := Lib.hid (HB1.out.trans (hb2.mono hsz1))
      have hsz2 := Nat.le_trans hsz1 hb2.size
      have HAP : Hid (Apart (.slice vA fs.length vc) A2 ((ahd r).length - 4) ∧ ∀ x, A2 = some x → w.heap.size ≤ x.block) := Lib.hid ⟨fun _ x hx e => by
        have e1 := hap x hx
        obtain ⟨cs, ho, _⟩ := HLst1.out.row
        have := (ho.lt _ e).2
        omega, fun x hx => Nat.le_trans hsz1 (hap x hx)⟩
      have HF := Lib.hid hf
      clear hy2 hap hb2 HLst1 hf HB1 HY1
      go_wp2_with (at_builtin; refine app_oneF rfl _ _ rfl w.heap.size _ (fs.map inn) rfl A2 _ _ (inn (ahd r)) w2 rfl HLst2.out rfl HY2.out HAP.out (by rw [List.length_map]; omega) hsz2 ?_)
      intro A3 c3 w3 hl3 hb3
      have HL3 := Lib.hid hl3
      have HB3 := Lib.hid (HB2.out.trans hb3)
      clear hl3 hb3 HLst2 HY2 HAP HB2
      go_wp2
      go_roundw
      case rel =>
        have e1 : (fs ++ [ahd r]).flatten.length = at_ + (ahd r).length := by rw [sum_snoc, ← HAt.out]
        refine ⟨fs ++ [ahd r], by rw [e1]; go_num, by omega, by rw [e1, List.length_append, List.length_singleton]; omega, ?_, ?_, ?_, HB3.out⟩
        · intro f hf
          rcases List.mem_append.1 hf with x | x
          · exact H3.out f x
          · rw [List.mem_singleton.1 x]; exact HF.out
        · rw [e1, HAt.out, HRr.out, List.flatten_append, List.take_length_add_append, ahd_pre]
          simp
        · rw [List.map_append]
          exact HL3.out
      case measure => simp [intOf]; omega
    · have hf' : isFrm (ahd r) = false := by simpa using hf
      go_wp2_with fail
      refine (open_no HY1.out (by omega) hf').mono ?_
      rintro e w2 ⟨rfl, hb2⟩
      have HB2 := Lib.hid (HB1.out.trans (hb2.mono hsz1))
      have HS2 := Lib.hid ((HLst1.out.later hb2).lst.bss)
      have HI2 : Hid (Inn w.heap.size w2 vA fs.length vc) := Lib.hid (by have := (HLst1.out.later hb2).inn; rwa [List.length_map] at this)
      have HF := Lib.hid hf'
      clear hb2 hf hf'
      go_wp2
      go_ret2
      refine ⟨fs, vA, vc, by rw [← HAt.out]; rfl, ⟨H3.out, r, HRr.out, HF.out⟩, ?_, HI2.out, HB2.out⟩
      obtain ⟨a, c, e1, e2⟩ := HS2.out
      rw [List.length_map] at e1 e2
      simp only [Value.slice.injEq, true_and] at e1
      obtain ⟨rfl, rfl⟩ := e1
      exact e2
end Jr
end Go.Proofs.YtejldeecblppjaaDoor
