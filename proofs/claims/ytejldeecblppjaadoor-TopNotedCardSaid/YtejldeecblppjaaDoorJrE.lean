/-
  Layer 16: the document's examples.
-/
import Derived.Test.YtejldeecblppjaaDoorJrD
import Derived.Lib.SlBytesConst
set_option linter.unusedVariables false
set_option maxRecDepth 100000
namespace Go.Proofs.YtejldeecblppjaaDoor
namespace Jr
open Go.RowKit Go.Maps Bp Ck
open Dk (D DAt DF op kp pwE apE apD syD cuE cuD IW crN crD)

theorem lit1 (w : World) (z : Nat) (hz : z ≤ 255) (fz : Nat × Nat) : By (w.alloc (.cells #[.int .u8 (z : Int)] 5 fz)).heap.size (w.alloc (.cells #[.int .u8 (z : Int)] 5 fz)) (some ⟨w.heap.size, 0, none⟩) 1 1 [z] := by
  have := lit_by w [z] fz (by simp) (by intro y hy; rw [List.mem_singleton.1 hy]; exact hz)
  have e : (w.alloc (.cells #[.int .u8 (z : Int)] 5 fz)).heap.size = w.heap.size + 1 := by simp
  rw [e]
  exact this
theorem belowJ {w w' w0 : World} {base j g B n : Nat} {v v' : Value} {d : D} (h : JAt w base j g v d n) (ht : Turn (JF j g v) (JF j g v') w w') (hb : Below B w0 w) (hB : B ≤ w0.heap.size) (hB2 : B ≤ base) : Below B w0 w' :=
  hb.trans (ht.below B (Nat.le_trans hB hb.size) (fun k hk => Nat.le_trans hB2 (h.blocks k hk).1))
theorem belowD {w w' w0 : World} {base g B : Nat} {v v' : Value} {d : D} (h : DAt w base g v d) (ht : Turn (DF g v) (DF g v') w w') (hb : Below B w0 w) (hB : B ≤ w0.heap.size) (hB2 : B ≤ base) : Below B w0 w' :=
  hb.trans (ht.below B (Nat.le_trans hB hb.size) (fun k hk => Nat.le_trans hB2 (h.blocks k hk).1))
end Jr
end Go.Proofs.YtejldeecblppjaaDoor
