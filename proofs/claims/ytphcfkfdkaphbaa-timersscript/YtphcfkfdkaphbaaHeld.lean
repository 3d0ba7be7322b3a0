import Derived.Test.YtphcfkfdkaphbaaRefE
import Derived.Test.YtphcfkfdkaphbaaTickS
import Derived.Laws.BytesArg
namespace Go.Proofs.Ytphcfkfdkaphbaa
open Go.RowKit
set_option linter.unusedVariables false

theorem below2 {a b c : World} (h : Below a.heap.size a b) (k : Below b.heap.size b c) : Below a.heap.size a c :=
  ⟨k.os.trans h.os, k.tape.trans h.tape, k.output.trans h.output, Nat.le_trans h.size k.size, fun i hi => (k.block i (Nat.lt_of_lt_of_le hi h.size)).trans (h.block i hi)⟩

set_option maxHeartbeats 800000 in
set_option maxRecDepth 1000000 in
theorem texts_any {w : World} {s t : Value} {ts : List Tm} (hs : w.ownsRow 0 9 1 s ts.length (ts.map fun x => .string x.t)) (ht : w.ownsRow 0 50 2 t ts.length (flatN ts)) (hl : ts.length ≤ 1048576) : Calls Try.prog 43 #[s, t] w fun e w' => e = .returned (.bool true) ∧ Below w.heap.size w w' := by
  obtain ⟨ao, c, rfl⟩ := owns_form hs
  obtain ⟨bo, d, rfl⟩ := owns_form ht
  have HS := hid hs
  have HT := hid ht
  clear hs ht
  have hne : ((ts.length : Int) != (ts.length : Int)) = false := by simp
  go_enter Try.func43, Try.ntmps43
  go_wp2
  go_loopw [13] (fun iv wr => ∃ i : Nat, i ≤ ts.length ∧ iv = .int .i64 (i : Int) ∧ ∃ q, wr = w.drewN q) (fun iv _ => ts.length - (intOf iv).toNat)
  case atStart => exact ⟨0, by omega, rfl, 0, rfl⟩
  case round =>
    obtain ⟨i, hi, rfl, q, rfl⟩ := hrel
    by_cases hlt : i < ts.length
    · have m1 : decide ((i : Int) < (ts.length : Int)) = true := decide_eq_true (by omega)
      have m2 : (i : Int) < (ts.length : Int) := by omega
      obtain ⟨x, hx⟩ : ∃ x, ts[i]? = some x := ⟨_, List.getElem?_eq_getElem hlt⟩
      have hs1 : w.ownsRow 0 9 1 (.slice ao ts.length c) (ts.map fun x => Value.string x.t).length (ts.map fun x => .string x.t) := by rw [List.length_map]; exact HS.out
      obtain ⟨ga, rfl, ya, _⟩ := owns_at hs1 (k := i) (u := .string x.t) (by simp [hx])
      obtain ⟨gb, rfl, _, yb, _⟩ := row2_cells HT.out hx
      have hne2 : (x.t.toList != x.t.toList) = false := by simp
      clear hs1 hx
      go_upto_region 6 with fail
      go_quiet (fail)
      go_wp2
      go_roundw
      case rel => exact ⟨i + 1, by omega, by go_num, _, rfl⟩
      case measure => simp [intOf]; omega
    · have m1 : decide ((i : Int) < (ts.length : Int)) = false := decide_eq_false (by omega)
      have m2 : ¬ (i : Int) < (ts.length : Int) := by omega
      go_wp2
      go_ret
      exact ⟨rfl, bdN w q⟩

/-- One text more. -/
theorem app_txt {W : World} {K : Nat} {s : ByteArray} {v : Value} {l : List Value} {cs : List Comp} (A : All (ownC 9 v l :: cs) W) (hK : W.heap[K]? = some (.cells #[.string s] 9 (0, 0))) (hlen : l.length ≤ 4294967296) :
    ∃ ao c w', (Builtin.append_ #[37, 37] 37 #[v, .slice (some ⟨K, 0, none⟩) 1 1]).run Try.prog W = .ok (.slice ao (l.length + 1) c) w' ∧ All (ownC 9 (.slice ao (l.length + 1) c) (l ++ [.string s]) :: cs) w' := by
  obtain ⟨i1, hi1, hz0, hz1, hz2⟩ := info_parts Try.info9
  have h1c : ∀ u ∈ [Value.string s], u.oneCell' = true := fun u hu => by
    rw [List.mem_singleton.1 hu]
    rfl
  obtain ⟨v', w', hr, h2, h3, h4, h5⟩ := run_append_own_at (P := Try.prog) W 0 37 37 9 i1 _ 1 16 Try.underlying37 hi1 hz0 hz1 hz2 rfl (by decide) v l.length l A.1.2.1 ⟨K, 0, none⟩ 1 1 [.string s] rfl
    (fun j u hu => by rw [Addr.add_lit, Nat.zero_add, cell_at hK]; exact (List.getElem?_toArray (xs := [Value.string s]) ..).trans hu) h1c (by unfold maxLen; omega) (by omega) (by omega)
  obtain ⟨ao, c, rfl⟩ := owns_form h2
  exact ⟨ao, c, w', hr, A.ownGrow (vs' := l ++ [.string s]) (by rw [List.length_append]; exact h2) h3 h5⟩
theorem All.ownPut {e : TypeId} {g n c j : Nat} {vs : List Value} {u : Value} {cs : List Comp} {w : World} (h : All (ownC e (.slice (some ⟨g, 0, none⟩) n c) vs :: cs) w) : All (ownC e (.slice (some ⟨g, 0, none⟩) n c) (vs.set j u) :: cs) (w.setCell ⟨g, j, none⟩ u) := by
  have ho : w.ownsRow 0 e 1 (.slice (some ⟨g, 0, none⟩) n c) vs.length vs := h.1.2.1
  have hn : n = vs.length := (owns_len ho).1
  subst hn
  have hs := (World.ownsRow.stored ho j u).1
  refine h.turn (Fr.setCell w g j _) (ownC_good _ _ _) (by show World.ownsRow _ _ _ _ _ _ _; rw [List.length_set]; exact hs) (Gr.refl _ _) (fun k' hk' => ?_)
  have := h.1.2.2 k' hk'
  simpa [World.setCell] using this

theorem size96 : (Try.prog.info? 96).map (·.size) = some 2 := by kernel_rfl
theorem ret_row2 {fn : Func} {p : Tmp} (hf : fn.results = #[.cell p 96]) {R : Ending → World → Prop} {a : Act} {w : World} {b : Nat} {cs : List Value} (hl : cs.length = 2) (ht : a.tmps.getD p undef = .pointer (some ⟨b, 0, none⟩)) (hg : w.heap[b]? = some (.cells cs.toArray 96 (0, 0))) (hd : a.defers = []) (hR : R (.returned (.agg cs.toArray)) w) : bodyPost Try.prog fn R .ret a w :=
  bodyPost_ret (v := .agg cs.toArray) (results_cell_row hf _ _ b 96 cs.toArray (0, 0) _ ht hg Try.underlying96 rfl (by rw [List.size_toArray, hl]; exact size96)) hd hR

theorem rep_set {α : Type} (m : α) (i : Nat) (l : List α) (hi : i < l.length) : (List.replicate i m ++ l.drop i).set i m = List.replicate (i + 1) m ++ l.drop (i + 1) := by
  rw [List.set_append_right _ _ (by simp), List.length_replicate, Nat.sub_self, List.drop_eq_getElem_cons hi, List.set_cons_zero, List.replicate_succ', List.append_assoc]
  rfl

set_option maxHeartbeats 1600000 in
set_option maxRecDepth 1000000 in
theorem hold_any {v : Value} {l : List Value} {cs : List Comp} {w : World} (hA : All (ownC 9 v l :: cs) w) (s : ByteArray) (hl : l.length ≤ 1048576) : Calls Try.prog 44 #[v, .string s] w fun e w' => ∃ ao c, e = .returned (.agg #[.slice ao (l.length + 3) c, .string s]) ∧ All (ownC 9 (.slice ao (l.length + 3) c) (List.replicate (l.length + 3) (.string s)) :: cs) w' := by
  obtain ⟨ao, c, hv⟩ := owns_form hA.1.2.1
  subst hv
  obtain ⟨K, hK⟩ : ∃ K, Hid (K = w.heap.size) := ⟨_, hid rfl⟩
  have A0 : Hid (All (ownC 9 (.slice ao l.length c) (List.replicate 0 (.string s) ++ l.drop 0) :: blkC K [.slice none 0 0, .string ⟨#[]⟩] 96 :: cs) (w.alloc (.cells #[.slice none 0 0, .string ⟨#[]⟩] 96))) := hid (by
    have A2 := hA.addBlk [.slice none 0 0, .string ⟨#[]⟩] 96
    rw [← hK.out] at A2
    simp only [List.replicate_zero, List.nil_append, List.drop_zero]
    exact A2.swap)
  clear hA
  go_enter Try.func44, Try.ntmps44
  go_wp2
  rw [← hK.out]
  generalize (w.alloc (.cells #[.slice none 0 0, .string ⟨#[]⟩] 96)) = w1 at A0 ⊢
  clear hK
  go_loopw [8] (fun iv wr => ∃ (i : Nat), i ≤ l.length ∧ iv = .int .i64 (i : Int) ∧ Hid (All (ownC 9 (.slice ao l.length c) (List.replicate i (.string s) ++ l.drop i) :: blkC K [.slice none 0 0, .string ⟨#[]⟩] 96 :: cs) wr)) (fun iv _ => l.length - (intOf iv).toNat)
  case atStart => exact ⟨0, by omega, rfl, A0⟩
  case round =>
    clear A0
    obtain ⟨i, hi, rfl, A1⟩ := hrel
    by_cases hlt : i < l.length
    · have m1 : decide ((i : Int) < (l.length : Int)) = true := decide_eq_true (by omega)
      have m2 : (i : Int) < (l.length : Int) := by omega
      have hll : (List.replicate i (Value.string s) ++ l.drop i).length = l.length := by simp; omega
      obtain ⟨x, hx⟩ : ∃ x, (List.replicate i (Value.string s) ++ l.drop i)[i]? = some x := ⟨_, List.getElem?_eq_getElem (by omega)⟩
      obtain ⟨g, rfl, hg, hf⟩ := owns_at A1.out.1.2.1 hx
      have A2 : Hid (All (ownC 9 (.slice (some ⟨g, 0, none⟩) l.length c) (List.replicate (i + 1) (.string s) ++ l.drop (i + 1)) :: blkC K [.slice none 0 0, .string ⟨#[]⟩] 96 :: cs) (wr.setCell ⟨g, i, none⟩ (.string s))) := hid (by
        have := A1.out.ownPut (j := i) (u := .string s)
        rw [rep_set _ i l hlt] at this
        exact this)
      clear A1 hx hll
      go_wp2
      go_roundw
      case rel => exact ⟨i + 1, by omega, by go_num, A2⟩
      case measure => simp [intOf]; omega
    · have m1 : decide ((i : Int) < (l.length : Int)) = false := decide_eq_false (by omega)
      have m2 : ¬ (i : Int) < (l.length : Int) := by omega
      have A2 : Hid (All (ownC 9 (.slice ao (l.length + 0) c) (List.replicate (l.length + 0) (.string s)) :: blkC K [.slice none 0 0, .string ⟨#[]⟩] 96 :: cs) wr) := hid (by
        have h := A1.out
        rw [show i = l.length by omega, List.drop_of_length_le (Nat.le_refl _), List.append_nil] at h
        exact h)
      clear A1
      go_wp2_with fail
      generalize hj3 : Value.int IntKind.i64 (i : Int) = j3
      clear hj3 m1 m2 hlt hi
      go_loopw [0, 16] (fun ov iv wr => ∃ (j : Nat), j ≤ 3 ∧ iv = .int .i64 (j : Int) ∧ Hid ((∃ oa oc, ov = .slice oa (l.length + j) oc) ∧ All (ownC 9 ov (List.replicate (l.length + j) (.string s)) :: blkC K [.slice none 0 0, .string ⟨#[]⟩] 96 :: cs) wr)) (fun _ iv _ => 3 - (intOf iv).toNat)
      case atStart => exact ⟨0, by omega, rfl, hid ⟨⟨_, _, rfl⟩, A2.out⟩⟩
      case round =>
        clear A2
        obtain ⟨j, hj, rfl, A3⟩ := hrel
        obtain ⟨⟨oa, oc, rfl⟩, A3'⟩ := A3.out
        have A3 := hid A3'
        clear A3'
        by_cases hj5 : j < 3
        · have q1 : decide ((j : Int) < 3) = true := decide_eq_true (by omega)
          have q2 : (j : Int) < 3 := by omega
          have hKK : (wr.alloc (.cells #[.string s] 9)).heap[wr.heap.size]? = some (.cells #[.string s] 9 (0, 0)) := heap_alloc_new wr _
          have hLL : (List.replicate (l.length + j) (Value.string s)).length = l.length + j := List.length_replicate
          obtain ⟨ao4, c4, w4, hr4, B4⟩ := app_txt (A3.out.alloc (.cells #[.string s] 9)) hKK (by rw [hLL]; omega)
          rw [hLL] at hr4 B4
          have HR4 := hid hr4
          have A5 : Hid (All (ownC 9 (.slice ao4 (l.length + (j + 1)) c4) (List.replicate (l.length + (j + 1)) (.string s)) :: blkC K [.slice none 0 0, .string ⟨#[]⟩] 96 :: cs) w4) := hid (by
            rw [← List.replicate_succ'] at B4
            exact B4)
          clear A3 hr4 B4 hKK hLL
          go_wp2_with (at_builtin; refine wpList_append_run rfl (.tmp 18) (.tmp 20) 37 rfl _ _ _ _ rfl rfl HR4.out ?_)
          go_roundw
          case rel => exact ⟨j + 1, by omega, by go_num, hid ⟨⟨_, _, rfl⟩, A5.out⟩⟩
          case measure => simp [intOf]; omega
        · have q1 : decide ((j : Int) < 3) = false := decide_eq_false (by omega)
          have q2 : ¬ (j : Int) < 3 := by omega
          have hj' : Hid (j = 3) := hid (by omega)
          have A5 := hid A3.out
          rw [hj'.out] at A5 ⊢
          have A7 : Hid (All (blkC K [.slice oa (l.length + 3) oc, .string s] 96 :: ownC 9 (.slice oa (l.length + 3) oc) (List.replicate (l.length + 3) (.string s)) :: cs) ((wr.setCell ⟨K, 0, none⟩ (.slice oa (l.length + 3) oc)).setCell ⟨K, 1, none⟩ (.string s))) := hid ((A5.out.swap.setBlk 0 _).setBlk 1 _)
          have eK := A5.out.swap.1.2.1
          have x0 : wr.cell? ⟨K, 0, none⟩ = some (.slice none 0 0) := by rw [cell_at eK]; rfl
          have x1 : wr.cell? ⟨K, 1, none⟩ = some (.string ⟨#[]⟩) := by rw [cell_at eK]; rfl
          have g0 := free_at eK 0; have g1 := free_at eK 1
          clear A3 A5 eK
          go_wp2
          have hz := A7.out.1.2.1
          refine ret_row2 (fn := Try.f44) (b := K) rfl rfl rfl hz rfl ?_
          exact ⟨oa, oc, rfl, A7.out.tail⟩

set_option maxHeartbeats 800000 in
set_option maxRecDepth 1000000 in
/-- A list that bears its mark alone. -/
theorem hstands_any {w : World} {ao : Option Addr} {m c : Nat} (s : ByteArray) (hE : w.ownsRow 0 9 1 (.slice ao m c) m (List.replicate m (.string s))) (hm : m ≤ 1048576) : Calls Try.prog 50 #[.agg #[.slice ao m c, .string s]] w fun e w' => e = .returned (.bool true) ∧ Below w.heap.size w w' := by
  have HE := hid hE
  obtain ⟨K, hK⟩ : ∃ K, Hid (K = w.heap.size) := ⟨_, hid rfl⟩
  have hk0 : (w.alloc (.cells #[.slice ao m c, .string s] 96)).heap[w.heap.size]? = some (.cells #[.slice ao m c, .string s] 96 (0, 0)) := heap_alloc_new w _
  have z0 : (w.alloc (.cells #[.slice ao m c, .string s] 96)).cell? ⟨w.heap.size, 0, none⟩ = some (.slice ao m c) := by rw [cell_at hk0]; rfl
  have z1 : (w.alloc (.cells #[.slice ao m c, .string s] 96)).cell? ⟨w.heap.size, 1, none⟩ = some (.string s) := by rw [cell_at hk0]; rfl
  have HB := hid (ba w (.cells #[.slice ao m c, .string s] 96))
  clear hE hk0
  go_enter Try.func50, Try.ntmps50
  go_wp2
  rw [← hK.out] at z0 z1 ⊢
  clear hK
  generalize (w.alloc (.cells #[.slice ao m c, .string s] 96)) = w1 at *
  go_loopw [8] (fun iv wr => ∃ i : Nat, i ≤ m ∧ iv = .int .i64 (i : Int) ∧ wr = w1) (fun iv _ => m - (intOf iv).toNat)
  case atStart => exact ⟨0, by omega, rfl, rfl⟩
  case round =>
    obtain ⟨i, hi, rfl, rfl⟩ := hrel
    by_cases hlt : i < m
    · have m1 : decide ((i : Int) < (m : Int)) = true := decide_eq_true (by omega)
      have m2 : (i : Int) < (m : Int) := by omega
      have hs1 : w.ownsRow 0 9 1 (.slice ao m c) (List.replicate m (Value.string s)).length (List.replicate m (.string s)) := by rw [List.length_replicate]; exact HE.out
      obtain ⟨ga, rfl, ya, _⟩ := owns_at hs1 (k := i) (u := .string s) (by simp [hlt])
      have ya := cell_under HB.out (World.block_lt_of_cell? _ _ ya) ya
      have hne2 : (s.toList != s.toList) = false := by simp
      clear hs1
      go_wp2
      go_roundw
      case rel => exact ⟨i + 1, by omega, by go_num, trivial⟩
      case measure => simp [intOf]; omega
    · have m1 : decide ((i : Int) < (m : Int)) = false := decide_eq_false (by omega)
      have m2 : ¬ (i : Int) < (m : Int) := by omega
      go_wp2
      go_ret
      exact ⟨rfl, HB.out⟩
end Go.Proofs.Ytphcfkfdkaphbaa
