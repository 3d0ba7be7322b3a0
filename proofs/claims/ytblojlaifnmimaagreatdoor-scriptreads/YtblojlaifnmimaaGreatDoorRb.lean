import Derived.Test.YtblojlaifnmimaaGreatDoorRa
namespace Go.Proofs.YtblojlaifnmimaaGreatDoor
open Go.RowKit
set_option linter.unusedVariables false

theorem ret1 {fn : Func} {t : TypeId} {i b : Nat} {C : Array Value} {R : Ending → World → Prop} {a : Act} {w : World} (hf : fn.results = #[.cell i t]) (ht : a.tmps.getD i undef = ptr b) (hL : (loadVar t ⟨b, 0, none⟩).run Tryz.prog w = .ok (.agg C) w) (hdf : a.defers = []) (hR : R (.returned (.agg C)) w) : bodyPost Tryz.prog fn R .ret a w := by
  refine bodyPost_ret (v := .agg C) ?_ hdf hR
  have hp : a.tmps[i]?.getD undef = ptr b := by rw [← ht]; simp
  simp [results, hf, hp, asAddr, hL]
theorem below_two (w : World) (x y : Obj) : Below w.heap.size w ((w.alloc x).alloc y) := by
  have := (All.came w).alloc x
  exact (this.alloc y).into (by simp)

set_option maxHeartbeats 3200000 in
set_option maxRecDepth 1000000 in
theorem with_65 {k a b x y ok on om n : Int} {X1 X2 : ByteArray} {w : World} : Calls Tryz.prog 45 #[.agg #[.int .i64 k, .int .i64 a, .int .i64 b, .int .i64 x, .int .i64 y, .int .i64 ok, .string X1, .string X2, .int .i64 on, .int .i64 om], .int .u8 65, .int .i64 n] w fun e w' => e = .returned (.agg #[.int .i64 k, .int .i64 n, .int .i64 b, .int .i64 x, .int .i64 y, .int .i64 ok, .string X1, .string X2, .int .i64 on, .int .i64 om]) ∧ Below w.heap.size w w' := by
  have B := hid (below_two w (.cells #[.int .i64 k, .int .i64 n, .int .i64 b, .int .i64 x, .int .i64 y, .int .i64 ok, .string X1, .string X2, .int .i64 on, .int .i64 om] 43) (.cells #[.int .i64 k, .int .i64 n, .int .i64 b, .int .i64 x, .int .i64 y, .int .i64 ok, .string X1, .string X2, .int .i64 on, .int .i64 om] 43))
  have L := hid (ld43 (b := w.heap.size + 1) (w := (w.alloc (.cells #[.int .i64 k, .int .i64 n, .int .i64 b, .int .i64 x, .int .i64 y, .int .i64 ok, .string X1, .string X2, .int .i64 on, .int .i64 om] 43)).alloc (.cells #[.int .i64 k, .int .i64 n, .int .i64 b, .int .i64 x, .int .i64 y, .int .i64 ok, .string X1, .string X2, .int .i64 on, .int .i64 om] 43)) (C := #[.int .i64 k, .int .i64 n, .int .i64 b, .int .i64 x, .int .i64 y, .int .i64 ok, .string X1, .string X2, .int .i64 on, .int .i64 om]) (by
    have := heap_alloc_new (w.alloc (.cells #[.int .i64 k, .int .i64 n, .int .i64 b, .int .i64 x, .int .i64 y, .int .i64 ok, .string X1, .string X2, .int .i64 on, .int .i64 om] 43)) (.cells #[.int .i64 k, .int .i64 n, .int .i64 b, .int .i64 x, .int .i64 y, .int .i64 ok, .string X1, .string X2, .int .i64 on, .int .i64 om] 43)
    rwa [show (w.alloc (.cells #[.int .i64 k, .int .i64 n, .int .i64 b, .int .i64 x, .int .i64 y, .int .i64 ok, .string X1, .string X2, .int .i64 on, .int .i64 om] 43)).heap.size = w.heap.size + 1 by simp] at this) rfl)
  go_enter Tryz.func45, Tryz.ntmps45
  go_wp2
  refine ret1 rfl rfl L.out rfl ?_
  exact ⟨rfl, B.out⟩

set_option maxHeartbeats 3200000 in
set_option maxRecDepth 1000000 in
theorem with_75 {k a b x y ok on om n : Int} {X1 X2 : ByteArray} {w : World} : Calls Tryz.prog 45 #[.agg #[.int .i64 k, .int .i64 a, .int .i64 b, .int .i64 x, .int .i64 y, .int .i64 ok, .string X1, .string X2, .int .i64 on, .int .i64 om], .int .u8 75, .int .i64 n] w fun e w' => e = .returned (.agg #[.int .i64 k, .int .i64 a, .int .i64 n, .int .i64 x, .int .i64 y, .int .i64 ok, .string X1, .string X2, .int .i64 on, .int .i64 om]) ∧ Below w.heap.size w w' := by
  have B := hid (below_two w (.cells #[.int .i64 k, .int .i64 a, .int .i64 n, .int .i64 x, .int .i64 y, .int .i64 ok, .string X1, .string X2, .int .i64 on, .int .i64 om] 43) (.cells #[.int .i64 k, .int .i64 a, .int .i64 n, .int .i64 x, .int .i64 y, .int .i64 ok, .string X1, .string X2, .int .i64 on, .int .i64 om] 43))
  have L := hid (ld43 (b := w.heap.size + 1) (w := (w.alloc (.cells #[.int .i64 k, .int .i64 a, .int .i64 n, .int .i64 x, .int .i64 y, .int .i64 ok, .string X1, .string X2, .int .i64 on, .int .i64 om] 43)).alloc (.cells #[.int .i64 k, .int .i64 a, .int .i64 n, .int .i64 x, .int .i64 y, .int .i64 ok, .string X1, .string X2, .int .i64 on, .int .i64 om] 43)) (C := #[.int .i64 k, .int .i64 a, .int .i64 n, .int .i64 x, .int .i64 y, .int .i64 ok, .string X1, .string X2, .int .i64 on, .int .i64 om]) (by
    have := heap_alloc_new (w.alloc (.cells #[.int .i64 k, .int .i64 a, .int .i64 n, .int .i64 x, .int .i64 y, .int .i64 ok, .string X1, .string X2, .int .i64 on, .int .i64 om] 43)) (.cells #[.int .i64 k, .int .i64 a, .int .i64 n, .int .i64 x, .int .i64 y, .int .i64 ok, .string X1, .string X2, .int .i64 on, .int .i64 om] 43)
    rwa [show (w.alloc (.cells #[.int .i64 k, .int .i64 a, .int .i64 n, .int .i64 x, .int .i64 y, .int .i64 ok, .string X1, .string X2, .int .i64 on, .int .i64 om] 43)).heap.size = w.heap.size + 1 by simp] at this) rfl)
  go_enter Tryz.func45, Tryz.ntmps45
  go_wp2
  refine ret1 rfl rfl L.out rfl ?_
  exact ⟨rfl, B.out⟩

set_option maxHeartbeats 3200000 in
set_option maxRecDepth 1000000 in
theorem with_88 {k a b x y ok on om n : Int} {X1 X2 : ByteArray} {w : World} : Calls Tryz.prog 45 #[.agg #[.int .i64 k, .int .i64 a, .int .i64 b, .int .i64 x, .int .i64 y, .int .i64 ok, .string X1, .string X2, .int .i64 on, .int .i64 om], .int .u8 88, .int .i64 n] w fun e w' => e = .returned (.agg #[.int .i64 k, .int .i64 a, .int .i64 b, .int .i64 n, .int .i64 y, .int .i64 ok, .string X1, .string X2, .int .i64 on, .int .i64 om]) ∧ Below w.heap.size w w' := by
  have B := hid (below_two w (.cells #[.int .i64 k, .int .i64 a, .int .i64 b, .int .i64 n, .int .i64 y, .int .i64 ok, .string X1, .string X2, .int .i64 on, .int .i64 om] 43) (.cells #[.int .i64 k, .int .i64 a, .int .i64 b, .int .i64 n, .int .i64 y, .int .i64 ok, .string X1, .string X2, .int .i64 on, .int .i64 om] 43))
  have L := hid (ld43 (b := w.heap.size + 1) (w := (w.alloc (.cells #[.int .i64 k, .int .i64 a, .int .i64 b, .int .i64 n, .int .i64 y, .int .i64 ok, .string X1, .string X2, .int .i64 on, .int .i64 om] 43)).alloc (.cells #[.int .i64 k, .int .i64 a, .int .i64 b, .int .i64 n, .int .i64 y, .int .i64 ok, .string X1, .string X2, .int .i64 on, .int .i64 om] 43)) (C := #[.int .i64 k, .int .i64 a, .int .i64 b, .int .i64 n, .int .i64 y, .int .i64 ok, .string X1, .string X2, .int .i64 on, .int .i64 om]) (by
    have := heap_alloc_new (w.alloc (.cells #[.int .i64 k, .int .i64 a, .int .i64 b, .int .i64 n, .int .i64 y, .int .i64 ok, .string X1, .string X2, .int .i64 on, .int .i64 om] 43)) (.cells #[.int .i64 k, .int .i64 a, .int .i64 b, .int .i64 n, .int .i64 y, .int .i64 ok, .string X1, .string X2, .int .i64 on, .int .i64 om] 43)
    rwa [show (w.alloc (.cells #[.int .i64 k, .int .i64 a, .int .i64 b, .int .i64 n, .int .i64 y, .int .i64 ok, .string X1, .string X2, .int .i64 on, .int .i64 om] 43)).heap.size = w.heap.size + 1 by simp] at this) rfl)
  go_enter Tryz.func45, Tryz.ntmps45
  go_wp2
  refine ret1 rfl rfl L.out rfl ?_
  exact ⟨rfl, B.out⟩

set_option maxHeartbeats 3200000 in
set_option maxRecDepth 1000000 in
theorem with_89 {k a b x y ok on om n : Int} {X1 X2 : ByteArray} {w : World} : Calls Tryz.prog 45 #[.agg #[.int .i64 k, .int .i64 a, .int .i64 b, .int .i64 x, .int .i64 y, .int .i64 ok, .string X1, .string X2, .int .i64 on, .int .i64 om], .int .u8 89, .int .i64 n] w fun e w' => e = .returned (.agg #[.int .i64 k, .int .i64 a, .int .i64 b, .int .i64 x, .int .i64 n, .int .i64 ok, .string X1, .string X2, .int .i64 on, .int .i64 om]) ∧ Below w.heap.size w w' := by
  have B := hid (below_two w (.cells #[.int .i64 k, .int .i64 a, .int .i64 b, .int .i64 x, .int .i64 n, .int .i64 ok, .string X1, .string X2, .int .i64 on, .int .i64 om] 43) (.cells #[.int .i64 k, .int .i64 a, .int .i64 b, .int .i64 x, .int .i64 n, .int .i64 ok, .string X1, .string X2, .int .i64 on, .int .i64 om] 43))
  have L := hid (ld43 (b := w.heap.size + 1) (w := (w.alloc (.cells #[.int .i64 k, .int .i64 a, .int .i64 b, .int .i64 x, .int .i64 n, .int .i64 ok, .string X1, .string X2, .int .i64 on, .int .i64 om] 43)).alloc (.cells #[.int .i64 k, .int .i64 a, .int .i64 b, .int .i64 x, .int .i64 n, .int .i64 ok, .string X1, .string X2, .int .i64 on, .int .i64 om] 43)) (C := #[.int .i64 k, .int .i64 a, .int .i64 b, .int .i64 x, .int .i64 n, .int .i64 ok, .string X1, .string X2, .int .i64 on, .int .i64 om]) (by
    have := heap_alloc_new (w.alloc (.cells #[.int .i64 k, .int .i64 a, .int .i64 b, .int .i64 x, .int .i64 n, .int .i64 ok, .string X1, .string X2, .int .i64 on, .int .i64 om] 43)) (.cells #[.int .i64 k, .int .i64 a, .int .i64 b, .int .i64 x, .int .i64 n, .int .i64 ok, .string X1, .string X2, .int .i64 on, .int .i64 om] 43)
    rwa [show (w.alloc (.cells #[.int .i64 k, .int .i64 a, .int .i64 b, .int .i64 x, .int .i64 n, .int .i64 ok, .string X1, .string X2, .int .i64 on, .int .i64 om] 43)).heap.size = w.heap.size + 1 by simp] at this) rfl)
  go_enter Tryz.func45, Tryz.ntmps45
  go_wp2
  refine ret1 rfl rfl L.out rfl ?_
  exact ⟨rfl, B.out⟩

/-- A step with a number in a field. -/
theorem with_any {s : Sp} {c : UInt8} {n : Int} {w : World} (hc : c = 65 ∨ c = 75 ∨ c = 88 ∨ c = 89) : Calls Tryz.prog 45 #[spV s, .int .u8 (c.toNat : Int), .int .i64 n] w fun e w' => e = .returned (spV (setS c.toNat n s)) ∧ Below w.heap.size w w' := by
  rcases hc with rfl | rfl | rfl | rfl
  · exact with_65
  · exact with_75
  · exact with_88
  · exact with_89
end Go.Proofs.YtblojlaifnmimaaGreatDoor
