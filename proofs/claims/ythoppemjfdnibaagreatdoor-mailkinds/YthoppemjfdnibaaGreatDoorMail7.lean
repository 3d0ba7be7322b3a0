import Derived.Test.YthoppemjfdnibaaGreatDoorMail6
import Derived.Test.YthoppemjfdnibaaGreatDoorPutX
namespace Go.Proofs.YthoppemjfdnibaaGreatDoor
open Go.RowKit Go.Lib
set_option linter.unusedVariables false

set_option maxHeartbeats 1600000 in
set_option maxRecDepth 1000000 in
theorem w124 {bw mb : Nat} {v : Value} {st : Option (List UInt8)} {m : Ms} {cs : List Comp} {w : World} (h : All (wrC bw v st :: cs) w) (hM : ∀ W, All cs W → MsAt W mb m) (hn : m.q < 9223372036854775808) (hlen : lenS st + 10 ≤ 140737488355328) :
    Calls Tryz.prog 124 #[.agg #[.pointer (some ⟨bw, 0, none⟩)], .pointer (some ⟨mb, 0, none⟩)] w fun e w' => e = .returned (.tuple #[]) ∧ ∃ v', All (wrC bw v' (numS st m.q) :: cs) w' := by
  have A := hid (h.addBlk [.pointer (some ⟨bw, 0, none⟩)] 66).swap
  have HM := hid hM
  have SS : Hid (∀ W v st, All (wrC bw v st :: blkC w.heap.size [.pointer (some ⟨bw, 0, none⟩)] 66 :: cs) W → W.cell? ⟨w.heap.size, 0, none⟩ = some (.pointer (some ⟨bw, 0, none⟩)) ∧ W.cell? ⟨mb, 8, none⟩ = some (.int .i64 m.q)) := hid (fun W v st hW => ⟨by rw [cell_at hW.tail.1.2.1]; rfl, hM W hW.tail.tail 8 _ rfl⟩)
  obtain ⟨p0, p1⟩ := SS.out _ _ _ A.out
  clear h hM
  go_enter Tryz.func124, Tryz.ntmps124
  go_wp2_with fail
  go_region_held3 (fun W => W.cell? ⟨w.heap.size, 0, none⟩ = some (.pointer (some ⟨bw, 0, none⟩)) ∧ W.cell? ⟨mb, 8, none⟩ = some (.int .i64 m.q)) (first | exact ⟨z0, z1⟩ | exact z0 | exact z1 | go_keep)
    (first
      | (go_at_call 82; refine (numW A.out.drew m.q hn hlen).mono ?_; rintro e w2 ⟨rfl, v2, A2⟩; have A2 := hid A2; obtain ⟨z0, z1⟩ := SS.out _ _ _ A2.out))
  clear z0 z1 p0 p1
  go_wp2
  go_end0
  exact ⟨rfl, v2, A2.out.swap.tail⟩

set_option maxHeartbeats 1600000 in
set_option maxRecDepth 1000000 in
/-- An op of kind 1. -/
theorem w128 {bw mb : Nat} {v : Value} {st : Option (List UInt8)} {m : Ms} {cs : List Comp} {w : World} (h : All (wrC bw v st :: cs) w) (ht : ∀ w', All cs w' → Tab w') (hM : ∀ W, All cs W → MsAt W mb m) (hk : m.ok = 1) (hn : m.on < 9223372036854775808) (hm : m.om < 9223372036854775808) (hlen : lenS st + m.onm.size + m.otx.size + 100 ≤ 140737488355328) :
    Calls Tryz.prog 128 #[.agg #[.pointer (some ⟨bw, 0, none⟩)], .pointer (some ⟨mb, 0, none⟩)] w fun e w' => e = .returned (.tuple #[]) ∧ ∃ v', All (wrC bw v' (if chkA 1 m.onm.size m.otx.size m.on m.om = 0 then putV 1 st m.onm m.otx m.on m.om else none) :: cs) w' := by
  have A := hid (h.addBlk [.pointer (some ⟨bw, 0, none⟩)] 66).swap
  have SS : Hid (∀ W v st, All (wrC bw v st :: blkC w.heap.size [.pointer (some ⟨bw, 0, none⟩)] 66 :: cs) W → W.cell? ⟨w.heap.size, 0, none⟩ = some (.pointer (some ⟨bw, 0, none⟩)) ∧ W.cell? ⟨mb, 10, none⟩ = some (.int .i64 1) ∧ W.cell? ⟨mb, 11, none⟩ = some (.string m.onm) ∧ W.cell? ⟨mb, 12, none⟩ = some (.string m.otx) ∧ W.cell? ⟨mb, 13, none⟩ = some (.int .i64 m.on) ∧ W.cell? ⟨mb, 14, none⟩ = some (.int .i64 m.om)) := hid (fun W v st hW => ⟨by rw [cell_at hW.tail.1.2.1]; rfl, by rw [← hk]; exact hM W hW.tail.tail 10 _ rfl, hM W hW.tail.tail 11 _ rfl, hM W hW.tail.tail 12 _ rfl, hM W hW.tail.tail 13 _ rfl, hM W hW.tail.tail 14 _ rfl⟩)
  have C := hid (put1 A.out.drew (fun w' h' => ht w' h'.tail) m.onm m.otx m.on m.om hn hm hlen)
  have p := hid (SS.out _ _ _ A.out.drew)
  generalize hST : (if chkA 1 m.onm.size m.otx.size m.on m.om = 0 then putV 1 st m.onm m.otx m.on m.om else none) = ST at C ⊢
  clear h hM hST hk ht
  go_enter Tryz.func128, Tryz.ntmps128
  go_wp2_with fail
  go_region_held3 (fun W => W.cell? ⟨w.heap.size, 0, none⟩ = some (.pointer (some ⟨bw, 0, none⟩)) ∧ W.cell? ⟨mb, 10, none⟩ = some (.int .i64 1) ∧ W.cell? ⟨mb, 11, none⟩ = some (.string m.onm) ∧ W.cell? ⟨mb, 12, none⟩ = some (.string m.otx) ∧ W.cell? ⟨mb, 13, none⟩ = some (.int .i64 m.on) ∧ W.cell? ⟨mb, 14, none⟩ = some (.int .i64 m.om)) (first | exact p.out | exact z.out)
    (first
      | (go_at_call 149; refine C.out.mono ?_; rintro e w2 ⟨rfl, v2, A2⟩; have A2 := hid A2; have z := hid (SS.out _ _ _ A2.out)))
  clear z p C
  go_wp2
  go_end0
  exact ⟨rfl, v2, A2.out.swap.tail⟩

theorem run_store_func (P : Program) (w : World) (a : Addr) (m : Mode) (f : Fn) (x y : Array Value) : (store a (.func f x y) m).run P w = stored P w a (.func f x y) m := run_store P w a _ m rfl
attribute [local go_sem] run_store_func

abbrev fnP (a b : FuncId) : Value := .agg #[.func (.func a) #[] #[], .func (.func b) #[] #[]]
theorem res83 {tmps : Array Value} {w : World} {b : Nat} {f g : Value} (ht : tmps.getD 2 undef = .pointer (some ⟨b, 0, none⟩)) (h : w.heap[b]? = some (.cells #[f, g] 103 (0, 0))) : (results Tryz.f83 tmps).run Tryz.prog w = .ok (.agg #[f, g]) w := by
  have hp' : tmps[2]?.getD undef = .pointer (some ⟨b, 0, none⟩) := by simpa using ht
  have hres : Tryz.f83.results = #[.cell 2 103] := rfl
  have x0 : w.cell? ⟨b, 0, none⟩ = some f := by rw [cell_at h]; rfl
  have x1 : w.cell? ⟨b, 1, none⟩ = some g := by rw [cell_at h]; rfl
  simp only [results, hres]
  go_simp
set_option maxRecDepth 1000000 in
theorem field81 (w : World) : Calls Tryz.prog 83 #[.int .i32 81] w fun e w' => e = .returned (fnP 124 125) ∧ Below w.heap.size w w' := by
  go_enter Tryz.func83, Tryz.ntmps83
  go_wp2
  exact bodyPost_ret (v := fnP 124 125) (res83 (b := w.heap.size) rfl (heap_alloc_new w _)) rfl ⟨rfl, ba _ _⟩
set_option maxRecDepth 1000000 in
theorem field79 (w : World) : Calls Tryz.prog 83 #[.int .i32 79] w fun e w' => e = .returned (fnP 128 129) ∧ Below w.heap.size w w' := by
  go_enter Tryz.func83, Tryz.ntmps83
  go_wp2
  exact bodyPost_ret (v := fnP 128 129) (res83 (b := w.heap.size) rfl (heap_alloc_new w _)) rfl ⟨rfl, ba _ _⟩
set_option maxRecDepth 1000000 in
theorem field86 (w : World) : Calls Tryz.prog 83 #[.int .i32 86] w fun e w' => e = .returned (fnP 114 115) ∧ Below w.heap.size w w' := by
  go_enter Tryz.func83, Tryz.ntmps83
  go_wp2
  exact bodyPost_ret (v := fnP 114 115) (res83 (b := w.heap.size) rfl (heap_alloc_new w _)) rfl ⟨rfl, ba _ _⟩
set_option maxRecDepth 1000000 in
theorem field75 (w : World) : Calls Tryz.prog 83 #[.int .i32 75] w fun e w' => e = .returned (fnP 116 117) ∧ Below w.heap.size w w' := by
  go_enter Tryz.func83, Tryz.ntmps83
  go_wp2
  exact bodyPost_ret (v := fnP 116 117) (res83 (b := w.heap.size) rfl (heap_alloc_new w _)) rfl ⟨rfl, ba _ _⟩

/-- A range over a text, as a part. -/
def itC (g : Nat) (s : ByteArray) (p : Nat) : Comp := ⟨fun w => w.heap[g]? = some (.stringIter s p), [g]⟩
theorem itC_good (g : Nat) (s : ByteArray) (p : Nat) : (itC g s p).Good := fun w w' h _ hb => (hb g (by simp [itC])).trans h
theorem All.addIter {cs : List Comp} {w : World} (h : All cs w) (s : ByteArray) : All (itC w.heap.size s 0 :: cs) (w.iter s 0) := by
  refine h.add (Fr.below (iter_below w s)) (itC_good _ _ _) (World.iter_heap w _ _) (fun k hk => ?_)
  have : k = w.heap.size := by simpa [itC] using hk
  subst this
  exact ⟨Nat.le_refl _, (Array.getElem?_eq_some_iff.1 (World.iter_heap w s 0)).1⟩
theorem All.stepIter {cs : List Comp} {w : World} {g : Nat} {s : ByteArray} {p : Nat} (h : All (itC g s p :: cs) w) (p' : Nat) : All (itC g s p' :: cs) (w.iterAt g s p') := by
  have hg : w.heap[g]? = some (.stringIter s p) := h.1.2.1
  refine h.turn ⟨rfl, rfl, rfl, by simp [World.iterAt], fun k hk hn => ?_⟩ (itC_good _ _ _) (iterAt_heap w g s p p' hg) (fun k hk => Or.inl hk) (fun k hk => ?_)
  · have : k ≠ g := by simpa [itC] using hn
    simp only [World.iterAt]
    rw [Array.getElem?_setIfInBounds_ne (by omega)]
  · have : k = g := by simpa [itC] using hk
    subst this
    exact (Array.getElem?_eq_some_iff.1 (iterAt_heap w k s p p' hg)).1

/-- The two messages of the document's examples. -/
def reqM : Ms := ⟨1, 7, 2, 0, 0, 0, 0, 0, 1, false, 1, ⟨#[113]⟩, ⟨#[]⟩, 0, 0, 0, 0, none, 0, 0, none, 0, 0, 0, 0, none, 0, 0, none, 0, 0⟩
def pokM : Ms := ⟨5, 1, 0, 300, 5, 0, 0, 0, 0, false, 0, ⟨#[]⟩, ⟨#[]⟩, 0, 0, 0, 0, none, 0, 0, none, 0, 0, 0, 0, none, 0, 0, none, 0, 0⟩

def stR : Nat → Option (List UInt8)
  | 0 => some [1, 7, 2]
  | 1 => some [1, 7, 2, 1]
  | _ => some [1, 7, 2, 1, 1, 1, 113]
end Go.Proofs.YthoppemjfdnibaaGreatDoor
