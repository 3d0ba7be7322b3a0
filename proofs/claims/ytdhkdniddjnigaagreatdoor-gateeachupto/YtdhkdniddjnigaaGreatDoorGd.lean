import Derived.Test.YtdhkdniddjnigaaGreatDoorGc
import Derived.Test.YtdhkdniddjnigaaGreatDoorD8
namespace Go.Proofs.YtdhkdniddjnigaaGreatDoor
open Go.RowKit
set_option linter.unusedVariables false

/-- A line's words, or why it has none. -/
def wdsM (tx : List UInt8) (long : Bool) : Ws × Nat := if long then ([], 160) else ((splitW tx).ws, (splitW tx).err)
set_option maxRecDepth 1000000 in
theorem words_any {B : Nat} {v : Value} {tx : List UInt8} {long : Bool} {cs : List Comp} {w : World} (A : All cs w) (c1 : w.cell? ⟨B, 1, none⟩ = some v) (c2 : w.cell? ⟨B, 2, none⟩ = some (.bool long)) (hR : Reads w v tx) (hl : tx.length ≤ 140737488355328) :
    Calls Tryz.prog 86 #[.pointer (some ⟨B, 0, none⟩)] w fun e w' => ∃ v', e = .returned (.tuple #[v', .int .i64 ((wdsM tx long).2 : Int)]) ∧ All (ownC 9 v' (txW (wdsM tx long).1) :: cs) w' := by
  obtain ⟨ao, c, rfl⟩ := hR.form
  cases long with
  | true =>
    have A1 := hid (All.addNil (e := 9) A)
    clear A hR hl
    go_enter Tryz.func86, Tryz.ntmps86
    go_wp2
    go_ret2
    exact ⟨_, rfl, A1.out⟩
  | false =>
    have cv := conv_string hR
    have S := hid (Split_any A hl)
    unfold SplitPost at S
    have e1 : wdsM tx false = ((splitW tx).ws, (splitW tx).err) := rfl
    rw [e1]
    clear A hR hl e1
    generalize tx.length = n at *
    generalize ByteArray.mk tx.toArray = T at *
    generalize splitW tx = SS at *
    go_enter Tryz.func86, Tryz.ntmps86
    go_wp2_with (go_at_call 121; refine S.out.mono ?_; rintro e w1 ⟨v', rfl, A1⟩; have A1 := hid A1)
    go_ret2
    exact ⟨_, rfl, A1.out⟩

theorem ret_cell52 {fn : Func} (hf : fn.results = #[.cell 2 42, .tmp 3]) {R : Ending → World → Prop} {a : Act} {w : World} {b : Nat} {v0 v1 v2 v3 v4 k : Value} (ht : a.tmps.getD 2 undef = ptr b) (h3 : a.tmps.getD 3 undef = k) (hg : w.heap[b]? = some (.cells #[v0, v1, v2, v3, v4] 42 (0, 0))) (hd : a.defers = []) (hR : R (.returned (.tuple #[.agg #[v0, v1, v2, v3, v4], k])) w) : bodyPost Tryz.prog fn R .ret a w := by
  refine bodyPost_ret (v := .tuple #[.agg #[v0, v1, v2, v3, v4], k]) ?_ hd hR
  have hp : a.tmps[2]?.getD undef = ptr b := by rw [← ht]; simp
  have hp3 : a.tmps[3]?.getD undef = k := by rw [← h3]; simp
  simp [results, hf, hp, hp3, asAddr, run_loadVar_row w b 42 42 #[v0, v1, v2, v3, v4] (0, 0) _ hg Tryz.underlying42 rfl (by rw [Tryz.size27]; rfl)]
theorem set5c {B : Nat} {a b c d e v0 v1 v2 v3 v4 : Value} {cs : List Comp} {w : World} (A : All (blkC B [a, b, c, d, e] 42 :: cs) w) : All (blkC B [v0, v1, v2, v3, v4] 42 :: cs) (((((w.setCell ⟨B, 0, none⟩ v0).setCell ⟨B, 1, none⟩ v1).setCell ⟨B, 2, none⟩ v2).setCell ⟨B, 3, none⟩ v3).setCell ⟨B, 4, none⟩ v4) :=
  ((((A.setBlk 0 v0).setBlk 1 v1).setBlk 2 v2).setBlk 3 v3).setBlk 4 v4
def OpR.val (o : OpR) : Value := opV o.k ⟨o.nm.toArray⟩ ⟨o.tx.toArray⟩ (o.n : Int) (o.m : Int)

set_option maxHeartbeats 1600000 in
set_option maxRecDepth 1000000 in
theorem readOp_any {v : Value} {l : Ws} {cs : List Comp} {w : World} (A : All cs w) (hR : ∀ W, All cs W → Rt W v l) (hV : ∀ W, All cs W → Vars W) (hT : ∀ W, All cs W → Tab W) (hW : ∀ W, All cs W → Wf W) (hl : l.length ≤ 140737488355328) (hs : ∀ x ∈ l, x.length ≤ 140737488355328) :
    Calls Tryz.prog 162 #[v] w fun e w' => e = .returned (.tuple #[(opRd l).2.val, .int .i64 (opRd l).1]) ∧ All cs w' := by
  obtain ⟨ao, c, rfl⟩ := (hR w A).form
  have A0 := hid (A.addBlk [.int .i64 0, .string ⟨#[]⟩, .string ⟨#[]⟩, .int .i64 0, .int .i64 0] 42)
  obtain ⟨H, hH⟩ : ∃ H, Hid (H = w.heap.size) := ⟨_, hid rfl⟩
  rw [← hH.out] at A0
  have RO := hid (ReadOp_any A0.out (fun W h => hR W h.tail) (fun W h => hV W h.tail) (fun W h => hT W h.tail) (fun W h => hW W h.tail) hl hs)
  unfold ROPost at RO
  unfold opRd OpR.val
  clear A hR hV hT hW hs hl
  generalize readO l = r at *
  obtain ⟨⟨k, nm, tx, n, m⟩, q, er⟩ := r
  simp only at RO ⊢
  by_cases he : er ≠ 0
  · rw [if_pos he]
    generalize ByteArray.mk nm.toArray = NM at *
    generalize ByteArray.mk tx.toArray = TX at *
    have he' : (er != 0) = true := by simpa using he
    clear he
    generalize l.length = nl at *
    go_enter Tryz.func162, Tryz.ntmps162
    go_upto_region 1 with fail
    simp only [← hH.out]
    generalize w.alloc (.cells #[.int .i64 0, .string ⟨#[]⟩, .string ⟨#[]⟩, .int .i64 0, .int .i64 0] 42) = w1 at *
    go_wp2_with (go_at_call 190; refine RO.out.mono ?_; rintro e w2 ⟨rfl, A2⟩; have A3 := hid ((set5c (v0 := .int .i64 0) (v1 := .string ⟨#[]⟩) (v2 := .string ⟨#[]⟩) (v3 := .int .i64 0) (v4 := .int .i64 0) A2).alloc (.cells #[.int .i64 k, .string NM, .string TX, .int .i64 (n : Int), .int .i64 (m : Int)] 42)); obtain ⟨y0, y1, y2, y3, y4, ylt⟩ := blk5 A2 (.head _); obtain ⟨f0, f1, f2, f3, f4⟩ := blk5f A2; clear A2)
    exact ret_cell52 rfl rfl rfl A3.out.1.2.1 rfl ⟨rfl, A3.out.tail⟩
  · rw [if_neg he]
    have he0 : er = 0 := Classical.byContradiction he
    subst he0
    clear he
    by_cases hq : q < l.length
    · rw [if_pos hq]
      generalize ByteArray.mk nm.toArray = NM at *
      generalize ByteArray.mk tx.toArray = TX at *
      have hq' : (q : Int) < (l.length : Int) := by omega
      clear hq
      generalize l.length = nl at *
      go_enter Tryz.func162, Tryz.ntmps162
      go_upto_region 1 with fail
      simp only [← hH.out]
      generalize w.alloc (.cells #[.int .i64 0, .string ⟨#[]⟩, .string ⟨#[]⟩, .int .i64 0, .int .i64 0] 42) = w1 at *
      go_wp2_with (go_at_call 190; refine RO.out.mono ?_; rintro e w2 ⟨rfl, A2⟩; have A3 := hid ((set5c (v0 := .int .i64 0) (v1 := .string ⟨#[]⟩) (v2 := .string ⟨#[]⟩) (v3 := .int .i64 0) (v4 := .int .i64 0) A2).alloc (.cells #[.int .i64 k, .string NM, .string TX, .int .i64 (n : Int), .int .i64 (m : Int)] 42)); obtain ⟨y0, y1, y2, y3, y4, ylt⟩ := blk5 A2 (.head _); obtain ⟨f0, f1, f2, f3, f4⟩ := blk5f A2; clear A2)
      exact ret_cell52 rfl rfl rfl A3.out.1.2.1 rfl ⟨rfl, A3.out.tail⟩
    · rw [if_neg hq]
      dsimp only
      generalize ByteArray.mk nm.toArray = NM at *
      generalize ByteArray.mk tx.toArray = TX at *
      have hq' : ¬ (q : Int) < (l.length : Int) := by omega
      clear hq
      generalize l.length = nl at *
      go_enter Tryz.func162, Tryz.ntmps162
      go_upto_region 1 with fail
      simp only [← hH.out]
      generalize w.alloc (.cells #[.int .i64 0, .string ⟨#[]⟩, .string ⟨#[]⟩, .int .i64 0, .int .i64 0] 42) = w1 at *
      go_wp2_with (go_at_call 190; refine RO.out.mono ?_; rintro e w2 ⟨rfl, A2⟩; have A3 := hid ((set5c (v0 := .int .i64 k) (v1 := .string NM) (v2 := .string TX) (v3 := .int .i64 (n : Int)) (v4 := .int .i64 (m : Int)) A2).alloc (.cells #[.int .i64 k, .string NM, .string TX, .int .i64 (n : Int), .int .i64 (m : Int)] 42)); obtain ⟨y0, y1, y2, y3, y4, ylt⟩ := blk5 A2 (.head _); obtain ⟨f0, f1, f2, f3, f4⟩ := blk5f A2; clear A2)
      exact ret_cell52 rfl rfl rfl A3.out.1.2.1 rfl ⟨rfl, A3.out.tail⟩
end Go.Proofs.YtdhkdniddjnigaaGreatDoor
