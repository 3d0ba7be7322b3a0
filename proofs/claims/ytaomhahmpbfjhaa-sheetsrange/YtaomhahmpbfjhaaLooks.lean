import Derived.Test.YtaomhahmpbfjhaaLook
namespace Go.Proofs.Ytaomhahmpbfjhaa
open Go.RowKit Go.Sort
set_option linter.unusedVariables false

theorem vis_len (N : Nodes) (a : Nat) : ∀ e k, (vis N a e k).length + 1 ≤ 2 ^ (e + 1)
  | 0, k => by simp [vis]
  | e + 1, k => by
    have h1 := vis_len N a e (2 * k)
    have h2 := vis_len N a e (2 * k + 1)
    have e4 : 2 ^ (e + 1 + 1) = 2 * 2 ^ (e + 1) := by rw [Nat.pow_succ]; omega
    have hp : 0 < 2 ^ e := Nat.pow_pos (by omega)
    have e5 : 2 ^ (e + 1) = 2 * 2 ^ e := by rw [Nat.pow_succ]; omega
    unfold vis
    split
    · simp; omega
    · simp; omega

theorem vis_127 (N : Nodes) (a : Nat) {e : Nat} (h : e ≤ 6) (k : Nat) : (vis N a e k).length ≤ 127 := by
  have := vis_len N a e k
  have h2 : 2 ^ (e + 1) ≤ 2 ^ 7 := Nat.pow_le_pow_right (by omega) (by omega)
  omega

theorem Ht.root (h : Nat) : Ht (2 ^ h) h 1 := by unfold Ht; omega

theorem wrap_next (c : Nat) : IntKind.i64.wrap (IntKind.i64.wrap (c : Int) + 1) = IntKind.i64.wrap ((c + 1 : Nat) : Int) := by
  rw [IntKind.wrap_i64, IntKind.wrap_i64, IntKind.wrap_i64]
  omega

set_option maxHeartbeats 1000000 in
theorem cnt47 {w : World} {m : Nat} {c : Int} {k : Nat} {cs : List Comp} (hA : All (blkC m [.int .i64 c] 3 :: cs) w) :
    Calls Try.prog 47 #[.int .i64 (k : Int), .pointer (some ⟨m, 0, none⟩)] w fun e w' => e = .returned (.bool true) ∧ All (blkC m [.int .i64 (IntKind.i64.wrap (c + 1))] 3 :: cs) w' := by
  have hg : w.heap[m]? = some (.cells [.int .i64 c].toArray 3 (0, 0)) := hA.1.2.1
  have c0 : w.cell? ⟨m, 0, none⟩ = some (.int .i64 c) := by rw [cell_at hg]; rfl
  have f0 : w.frozen? ⟨m, 0, none⟩ = false := free_at hg 0
  have A2 := hid (hA.setBlk 0 (.int .i64 (IntKind.i64.wrap (c + 1))))
  generalize hc : IntKind.i64.wrap (c + 1) = c2 at *
  clear hA hg
  go_enter Try.func47, Try.ntmps47
  go_wp2
  go_ret
  exact ⟨rfl, A2.out⟩

/-- How many nodes are looked at. -/
def looksN (N : Nodes) (at_ : Int) (h : Nat) : Nat := (vis N at_.toNat h 1).length

set_option maxHeartbeats 4000000 in
theorem Looks_all {w : World} {g n h : Nat} {ps : List Nat} {N : Nodes} {P : Pool} {cs : List Comp} {S : Sheets} {at_ : Int} (hA : All (poolC P :: blkC g (bookL n (2 ^ h) ps) 70 :: cs) w) (hB : Bk P n (2 ^ h) ps N S) (hh : h ≤ 6) :
    Calls Try.prog 23 #[.pointer (some ⟨g, 0, none⟩), .int .i64 at_] w fun e w' => e = .returned (.int .i64 (looksN N at_ h)) ∧ All (poolC P :: blkC g (bookL n (2 ^ h) ps) 70 :: cs) w' := by
  have A1 := hA.addBlk [.int .i64 0] 3
  have e00 : IntKind.i64.wrap (([] : List Nat).length : Int) = 0 := by decide
  have key := look47 (g := g) (o := 1) (lv := 2 ^ h) (a := at_.toNat) (m := w.heap.size) (N := N) (fun l w' => All (blkC w.heap.size [.int .i64 (IntKind.i64.wrap (l.length : Int))] 3 :: poolC P :: blkC g (bookL n (2 ^ h) ps) 70 :: cs) w') (fun _ _ => False) hB.lv64
    (fun l w' hI => hB.tr.view (pre := [.int .i64 (n : Int)]) (t := 70) (fun x hx => hI.tail.poolIn hx) (hI.blk (by simp [bookL])))
    (vis N at_.toNat h 1) (fun l k rest w' _ hk hI => (cnt47 hI).mono (fun e w2 (h : _ ∧ _) => Or.inl ⟨h.1, by
      have h2 := h.2
      rw [wrap_next] at h2
      simpa using h2⟩)) h 1 [] [] _ (Ht.root h) (by simp) (by rw [e00]; exact A1)
  have K : Hid (Calls Try.prog 40 #[.pointer (some ⟨g, 1, none⟩), .int .i64 1, .int .i64 (at_.toNat : Int), .func (.func 47) #[] #[.pointer (some ⟨w.heap.size, 0, none⟩)]] (w.alloc (.cells #[.int .i64 0] 3)) fun r w' => r = .returned (.bool true) ∧ All (blkC w.heap.size [.int .i64 (looksN N at_ h)] 3 :: poolC P :: blkC g (bookL n (2 ^ h) ps) 70 :: cs) w') := hid (key.mono (fun r w' hr => by
    rcases hr with ⟨rfl, hI⟩ | ⟨_, _, _, hX⟩
    · refine ⟨rfl, ?_⟩
      have h127 := vis_127 N at_.toNat hh 1
      have e : IntKind.i64.wrap ((([] ++ vis N at_.toNat h 1 : List Nat).length : Nat) : Int) = ((looksN N at_ h : Nat) : Int) := by
        rw [List.nil_append, IntKind.wrap_i64]; unfold looksN; omega
      rw [e] at hI
      exact hI
    · exact hX.elim))
  generalize looksN N at_ h = res at *
  have e1 : ∃ a : Int, Hid (a = (at_.toNat : Int)) := ⟨_, hid rfl⟩
  obtain ⟨a, ha⟩ := e1
  rw [← ha.out] at K
  clear key A1 hA hB hh e00
  by_cases hc : at_ < 0
  · have ha0 : a = 0 := by rw [ha.out]; omega
    subst ha0
    clear ha
    go_enter Try.func23, Try.ntmps23
    go_wp2_with fail
    go_at_call 40
    refine K.out.mono ?_
    rintro r w2 ⟨rfl, A2⟩
    have c0 : w2.cell? ⟨w.heap.size, 0, none⟩ = some (.int .i64 (res : Int)) := by rw [cell_at (show w2.heap[w.heap.size]? = some (.cells #[.int .i64 (res : Int)] 3 (0, 0)) from A2.1.2.1)]; rfl
    have A2 := hid A2.tail
    go_wp2
    go_ret
    exact ⟨rfl, A2.out⟩
  · have ha0 : a = at_ := by rw [ha.out]; omega
    subst ha0
    clear ha
    go_enter Try.func23, Try.ntmps23
    go_wp2_with fail
    go_at_call 40
    refine K.out.mono ?_
    rintro r w2 ⟨rfl, A2⟩
    have c0 : w2.cell? ⟨w.heap.size, 0, none⟩ = some (.int .i64 (res : Int)) := by rw [cell_at (show w2.heap[w.heap.size]? = some (.cells #[.int .i64 (res : Int)] 3 (0, 0)) from A2.1.2.1)]; rfl
    have A2 := hid A2.tail
    go_wp2
    go_ret
    exact ⟨rfl, A2.out⟩

end Go.Proofs.Ytaomhahmpbfjhaa
