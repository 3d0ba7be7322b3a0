import Derived.Test.YtgmjjopfpenceaaDoorBase
import Derived.Lib.Strings
namespace Go.Proofs.YtgmjjopfpenceaaDoor
open Go.RowKit
set_option linter.unusedVariables false

abbrev Ws := List (List UInt8)
abbrev ptr (B : Nat) : Value := .pointer (some ⟨B, 0, none⟩)
def txW (ws : Ws) : List Value := ws.map fun w => Value.string ⟨w.toArray⟩
theorem txW_length (ws : Ws) : (txW ws).length = ws.length := by simp [txW]
theorem txW_snoc (ws : Ws) (w : List UInt8) : txW (ws ++ [w]) = txW ws ++ [.string ⟨w.toArray⟩] := by simp [txW]
/-- One byte laid behind one's own. -/
theorem app_byte {W : World} {v : Value} {l : List UInt8} {cs : List Comp} (A : All (ownC 5 v (cellsB l) :: cs) W) (b : UInt8) (hl : l.length + 1 ≤ 140737488355328) :
    ∃ ao c w', (Builtin.append_ #[43, 43] 43 #[v, .slice (some ⟨W.heap.size, 0, none⟩) 1 1]).run Tryd.prog (W.alloc (.cells #[.int .u8 (b.toNat : Int)] 5)) = .ok (.slice ao (l.length + 1) c) w' ∧ All (ownC 5 (.slice ao (l.length + 1) c) (cellsB (l ++ [b])) :: cs) w' := by
  obtain ⟨i1, hi1, hz0, hz1, hz2⟩ := info_parts Tryd.info5
  obtain ⟨ao, c, w', hr, A2⟩ := app1 (H := W.heap.size) (x := .int .u8 (b.toNat : Int)) Tryd.underlying43 hi1 hz0 hz1 hz2 rfl (A.alloc (.cells #[.int .u8 (b.toNat : Int)] 5)) (by rw [cell_at (heap_alloc_new W _)]; rfl) rfl (by rw [cellsB_length]; unfold maxLen; omega) (by rw [cellsB_length]; omega)
  rw [cellsB_length] at hr A2
  refine ⟨ao, c, w', hr, ?_⟩
  rw [cellsB_append]
  exact A2
/-- One text laid behind one's own. -/
theorem app_txt {W : World} {v : Value} {l : Ws} {cs : List Comp} (A : All (ownC 9 v (txW l) :: cs) W) (x : List UInt8) (hl : l.length + 1 ≤ 1000000000000) :
    ∃ ao c w', (Builtin.append_ #[28, 28] 28 #[v, .slice (some ⟨W.heap.size, 0, none⟩) 1 1]).run Tryd.prog (W.alloc (.cells #[.string ⟨x.toArray⟩] 9)) = .ok (.slice ao (l.length + 1) c) w' ∧ All (ownC 9 (.slice ao (l.length + 1) c) (txW (l ++ [x])) :: cs) w' := by
  obtain ⟨i1, hi1, hz0, hz1, hz2⟩ := info_parts Tryd.info9
  obtain ⟨ao, c, w', hr, A2⟩ := app1 (H := W.heap.size) (x := .string ⟨x.toArray⟩) Tryd.underlying28 hi1 hz0 hz1 hz2 rfl (A.alloc (.cells #[.string ⟨x.toArray⟩] 9)) (by rw [cell_at (heap_alloc_new W _)]; rfl) rfl (by rw [txW_length]; unfold maxLen; omega) (by rw [txW_length]; omega)
  rw [txW_length] at hr A2
  refine ⟨ao, c, w', hr, ?_⟩
  rw [txW_snoc]
  exact A2

theorem foldl_push (l : List UInt8) : ∀ s : ByteArray, (l.map fun b => (b.toNat : Int)).foldl (fun r n => r.push (UInt8.ofNat n.toNat)) s = ⟨s.data ++ l.toArray⟩ := by
  induction l with
  | nil => intro s; simp
  | cons c r ih =>
    intro s
    simp only [List.map_cons, List.foldl_cons]
    rw [ih]
    simp [ByteArray.push]
theorem conv_string {w : World} {ao : Option Addr} {n c : Nat} {l : List UInt8} (h : Reads w (.slice ao n c) l) : (convert 43 9 (.slice ao n c)).run Tryd.prog w = .ok (.string ⟨l.toArray⟩) w := by
  obtain ⟨ao, c, e, hc, hcase⟩ := h
  simp only [Value.slice.injEq] at e
  obtain ⟨rfl, rfl, rfl⟩ := e
  rw [run_convert_bytes_string w 43 9 5 _ l.length _ Tryd.underlying43 Tryd.underlying5 Tryd.underlying9]
  rcases hcase with ⟨rfl, h0⟩ | ⟨g, o, rfl, hg, hcell⟩
  · rcases ao with _ | a
    · obtain rfl := h0 rfl; rfl
    ·
      have hl : (loadCells a 0).run Tryd.prog w = .ok #[] w := by
        have := run_loadCells_list (P := Tryd.prog) w a [] (by simp)
        simpa using this
      rw [List.length_nil, run_bytesToString w a 0 c [] (by simpa using hl)]
      rfl
  · have hl : (loadCells ⟨g, o, none⟩ l.length).run Tryd.prog w = .ok (((l.map fun b => (b.toNat : Int)).map (Value.int .u8)).toArray) w := by
      have := run_loadCells_list (P := Tryd.prog) w ⟨g, o, none⟩ (cellsB l) (by simpa [Addr.add_lit] using hcell)
      rw [cellsB_length] at this
      simpa [cellsB, Function.comp_def] using this
    rw [run_bytesToString w ⟨g, o, none⟩ l.length _ _ hl, foldl_push]
    simp

theorem step_append_run {P : Program} {w : World} {ops : Array Oper} {o : Oper} {a : Act} {K : Act → World → Prop} {Q : Exit → Act → World → Prop} {E : Prop} (hgd : o.guard = none) (s x : Operand) (t : TypeId)
    (ho : o.op = .call { callee := .builtin .append, args := #[s, x], argTypes := #[t, t] }) (v1 v2 v' : Value) (w' : World) (hs : a.eval s = v1) (hx : a.eval x = v2)
    (hr : (Builtin.append_ #[t, t] o.type #[v1, v2]).run P w = .ok v' w') (h : K (a.put o.dst v') w') :
    if Region.wanted o (yielded ops a.tmps) = true then Oper.wp P o a w K Q else E := by
  have hw : Region.wanted o (yielded ops a.tmps) = true := by simp [Region.wanted, hgd]
  rw [if_pos hw]
  unfold Oper.wp execOp
  simp only [ho, resolve, invoke, builtin, Sem.run_bind, Sem.run_pure, Result.andThen_ok, List.map_toArray, List.map_cons, List.map_nil, hs, hx, hr]
  exact h

theorem reads_own {e : Value} {l : List UInt8} {cs : List Comp} {w : World} (h : All (ownC 5 e (cellsB l) :: cs) w) : Reads w e l := by
  have := h.1.2.1
  exact Reads.of_owns (base := 0) (by rw [← cellsB_length l]; exact this)

theorem idx_at {l : List UInt8} {k : Nat} (hk : k < l.length) (W : World) : (Instr.index 9 (.string ⟨l.toArray⟩) (.int .i64 (k : Int))).run Tryd.prog W = .ok (.int .u8 ((l.getD k 0).toNat : Int)) W := by
  have hs : (⟨l.toArray⟩ : ByteArray).size = l.length := by simp [ByteArray.size]
  rw [run_index_string W 9 _ _ _ Tryd.underlying9, dif_pos ⟨by omega, by rw [hs]; omega⟩]
  congr 3
  have h1 : ((k : Int).toNat) = k := by simp
  simp only [h1]
  have : (⟨l.toArray⟩ : ByteArray)[k]'(by rw [hs]; omega) = l[k] := by
    show (ByteArray.get _ _ _) = _
    simp [ByteArray.get]
  rw [this]
  simp [List.getD, hk]

theorem take_snocB {x : List UInt8} {k : Nat} (hk : k < x.length) : x.take (k + 1) = x.take k ++ [x.getD k 0] := by
  rw [List.take_add_one, List.getElem?_eq_getElem hk]
  simp [List.getD, hk]


theorem All.setOwn {t : TypeId} {g n cap k : Nat} {us : List Value} {u : Value} {cs : List Comp} {w : World} (h : All (ownC t (.slice (some ⟨g, 0, none⟩) n cap) us :: cs) w) : All (ownC t (.slice (some ⟨g, 0, none⟩) n cap) (us.set k u) :: cs) (w.setCell ⟨g, k, none⟩ u) := by
  have ho : w.ownsRow 0 t 1 (.slice (some ⟨g, 0, none⟩) n cap) us.length us := h.1.2.1
  obtain ⟨hn, _⟩ := owns_len ho
  subst hn
  have hs := (World.ownsRow.stored ho k u).1
  refine h.turn (Fr.setCell w g k _) (ownC_good _ _ _) ?_ (Gr.refl _ _) (fun k' hk' => ?_)
  · show World.ownsRow _ 0 t 1 _ (us.set k u).length _
    rw [List.length_set]; exact hs
  · have := h.1.2.2 k' hk'
    simpa [World.setCell] using this

/-- A list of texts that is read. -/
def Rt (w : World) (s : Value) (l : Ws) : Prop :=
  ∃ ao c, s = .slice ao l.length c ∧ l.length ≤ c ∧ (l = [] ∨ ∃ g o, ao = some ⟨g, o, none⟩ ∧ g < w.heap.size ∧ ∀ j (h : j < l.length), w.cell? ⟨g, o + j, none⟩ = some (.string ⟨l[j].toArray⟩))
theorem Rt.later {w w' : World} {s : Value} {l : Ws} (h : Rt w s l) (hb : Below w.heap.size w w') : Rt w' s l := by
  obtain ⟨ao, c, e, hc, hx⟩ := h
  refine ⟨ao, c, e, hc, hx.imp id ?_⟩
  rintro ⟨g, o, ea, hg, hcell⟩
  exact ⟨g, o, ea, Nat.lt_of_lt_of_le hg hb.size, fun j hj => cell_under hb hg (hcell j hj)⟩
theorem Rt.form {w : World} {s : Value} {l : Ws} (h : Rt w s l) : ∃ ao c, s = .slice ao l.length c := by obtain ⟨ao, c, e, _⟩ := h; exact ⟨ao, c, e⟩
theorem Rt.at {w : World} {ao : Option Addr} {n c : Nat} {l : Ws} (h : Rt w (.slice ao n c) l) {j : Nat} (hj : j < l.length) : ∃ g o, ao = some ⟨g, o, none⟩ ∧ g < w.heap.size ∧ w.cell? ⟨g, o + j, none⟩ = some (.string ⟨(l.getD j []).toArray⟩) := by
  obtain ⟨ao', c', e, hc, hx⟩ := h
  simp only [Value.slice.injEq] at e
  obtain ⟨rfl, _, _⟩ := e
  rcases hx with rfl | ⟨g, o, ea, hg, hcell⟩
  · simp at hj
  · refine ⟨g, o, ea, hg, ?_⟩
    rw [hcell j hj]
    simp [List.getD, hj]
theorem Rt.of_owns {w : World} {base : Nat} {s : Value} {l : Ws} (h : w.ownsRow base 9 1 s (txW l).length (txW l)) : Rt w s l := by
  obtain ⟨ao, c, rfl⟩ := owns_form h
  have hl := owns_len h
  rw [txW_length] at hl ⊢
  refine ⟨ao, c, rfl, hl.2, ?_⟩
  by_cases h0 : l = []
  · exact Or.inl h0
  · have h1 : 0 < l.length := List.length_pos_iff.2 h0
    obtain ⟨g, rfl, hc, _⟩ := owns_at h (k := 0) (u := .string ⟨l[0].toArray⟩) (by simp [txW, h1])
    refine Or.inr ⟨g, 0, rfl, World.block_lt_of_cell? w _ hc, fun j hj => ?_⟩
    obtain ⟨g', e, hc', _⟩ := owns_at h (k := j) (u := .string ⟨l[j].toArray⟩) (by simp [txW, hj])
    simp only [Option.some.injEq, Addr.mk.injEq, and_true] at e
    subst e
    simpa using hc'
theorem rt_own {v : Value} {l : Ws} {cs : List Comp} {w : World} (h : All (ownC 9 v (txW l) :: cs) w) : Rt w v l := Rt.of_owns (base := 0) h.1.2.1
theorem rt_mem {v : Value} {l : Ws} {cs : List Comp} {w : World} (h : All cs w) (hm : ownC 9 v (txW l) ∈ cs) : Rt w v l := Rt.of_owns (base := 0) (h.mem hm).2.1

theorem ba_ne {x y : List UInt8} : ((⟨x.toArray⟩ : ByteArray).toList == (⟨y.toArray⟩ : ByteArray).toList) = decide (x = y) := by
  rw [Lib.toList_data, Lib.toList_data, Bool.eq_iff_iff]
  simp
theorem differ_ws {l t : Ws} (hl : l.length = t.length) (h : l ≠ t) : ∃ k, k < l.length ∧ l.getD k [] ≠ t.getD k [] := by
  apply Classical.byContradiction
  intro hn
  apply h
  apply List.ext_getElem hl
  intro i h1 h2
  apply Classical.byContradiction
  intro hne
  exact hn ⟨i, h1, by simpa [List.getD, List.getElem?_eq_getElem h1, List.getElem?_eq_getElem h2] using hne⟩

set_option maxHeartbeats 1600000 in
set_option maxRecDepth 1000000 in
theorem texts_any {w : World} {s t : Value} {l m : Ws} (hs : Rt w s l) (ht : Rt w t m) (hl : l.length ≤ 140737488355328) (hm : m.length ≤ 140737488355328) :
    Calls Tryd.prog 11 #[s, t] w fun e w' => e = .returned (.bool (decide (l = m))) ∧ ∃ q, w' = w.drewN q := by
  obtain ⟨ao, c, hf⟩ := hs.form
  obtain ⟨ao', c', hf'⟩ := ht.form
  subst hf hf'
  have HS := hid hs
  have HT := hid ht
  clear hs ht
  generalize hres : decide (l = m) = res
  have HR := hid hres
  clear hres
  by_cases hlm : l.length = m.length
  · have hne : ((l.length : Int) != (m.length : Int)) = false := by simp [hlm]
    go_enter Tryd.func11, Tryd.ntmps11
    go_wp2
    go_loopw [13] (fun iv wr => ∃ (k q : Nat), k ≤ l.length ∧ iv = .int .i64 (k : Int) ∧ Hid (∀ j, j < k → l.getD j [] = m.getD j []) ∧ w.drewN q = wr) (fun iv _ => l.length - (intOf iv).toNat)
    case atStart => exact ⟨0, 0, by omega, rfl, fun j hj => by omega, rfl⟩
    case round =>
      obtain ⟨k, q, hk, rfl, hall, rfl⟩ := hrel
      by_cases hlt : k < l.length
      · obtain ⟨g, o, rfl, _, h1⟩ := HS.out.at hlt
        obtain ⟨g', o', rfl, _, h2⟩ := HT.out.at (show k < m.length by omega)
        have hkm : k < m.length := by omega
        have EQ := hid (ba_ne (x := l.getD k []) (y := m.getD k []))
        by_cases hxy : l.getD k [] = m.getD k []
        · have hb : ((⟨(l.getD k []).toArray⟩ : ByteArray).toList == (⟨(m.getD k []).toArray⟩ : ByteArray).toList) = true := by rw [EQ.out]; exact decide_eq_true hxy
          have hxy' := hid hxy
          clear hxy EQ
          generalize ByteArray.mk (l.getD k []).toArray = X at *
          generalize ByteArray.mk (m.getD k []).toArray = Y at *
          have hb' : (X.toList != Y.toList) = false := by simp only [bne, hb]; rfl
          go_wp2
          go_region
          go_wp2
          go_roundw
          case rel => exact ⟨k + 1, q + 1, by omega, by go_num, fun j hj => by
            by_cases hjk : j < k
            · exact hall.out j hjk
            · have : j = k := by omega
              subst this
              exact hxy'.out, by rfl⟩
          case measure => simp [intOf]; omega
        · have hb : ((⟨(l.getD k []).toArray⟩ : ByteArray).toList == (⟨(m.getD k []).toArray⟩ : ByteArray).toList) = false := by rw [EQ.out]; exact decide_eq_false hxy
          have hxy' := hid hxy
          clear hxy EQ
          generalize ByteArray.mk (l.getD k []).toArray = X at *
          generalize ByteArray.mk (m.getD k []).toArray = Y at *
          have hb' : (X.toList != Y.toList) = true := by simp only [bne, hb]; rfl
          go_wp2
          go_region
          go_wp2
          go_ret
          refine ⟨?_, q + 1, rfl⟩
          have : decide (l = m) = false := decide_eq_false (fun e => by
            subst e
            exact hxy'.out rfl)
          rw [← HR.out, this]; rfl
      · have hfin := hid (show decide (l = m) = true from decide_eq_true (Classical.byContradiction fun hn => by
          obtain ⟨j, hj, hd⟩ := differ_ws hlm hn
          exact hd (hall.out j (by omega))))
        go_wp2
        go_ret
        refine ⟨?_, q, rfl⟩
        rw [← HR.out, hfin.out]; rfl
  · have hne : ((l.length : Int) != (m.length : Int)) = true := by simp; omega
    have hfin := hid (show decide (l = m) = false from decide_eq_false (fun e => hlm (by rw [e])))
    clear hlm
    go_enter Tryd.func11, Tryd.ntmps11
    go_wp2
    go_ret
    refine ⟨?_, 0, rfl⟩
    rw [← HR.out, hfin.out]; rfl

theorem texts_same {w : World} {s t : Value} {l : Ws} (hs : Rt w s l) (ht : Rt w t l) (hl : l.length ≤ 140737488355328) :
    Calls Tryd.prog 11 #[s, t] w fun e w' => e = .returned (.bool true) ∧ ∃ q, w' = w.drewN q := by
  have := texts_any hs ht hl hl
  rw [decide_eq_true rfl] at this
  exact this

set_option maxHeartbeats 1600000 in
set_option maxRecDepth 1000000 in
/-- A list of the same text all over. -/
theorem full_any {w : World} {s : Value} {n : Nat} {x : List UInt8} (hs : Rt w s (List.replicate n x)) (hl : n ≤ 140737488355328) :
    Calls Tryd.prog 14 #[s, .string ⟨x.toArray⟩] w fun e w' => e = .returned (.bool true) ∧ w' = w := by
  obtain ⟨ao, c, hf⟩ := hs.form
  subst hf
  have HS := hid hs
  clear hs
  have hn : (List.replicate n x).length = n := by simp
  have CE : Hid (∀ k, k < n → ∃ g o, ao = some ⟨g, o, none⟩ ∧ w.cell? ⟨g, o + k, none⟩ = some (.string ⟨x.toArray⟩)) := hid (fun k hk => by
    obtain ⟨g, o, e, _, h1⟩ := HS.out.at (j := k) (by rw [hn]; exact hk)
    refine ⟨g, o, e, ?_⟩
    rw [h1]
    simp [List.getD, hk])
  rw [hn] at *
  clear hn
  have hb : ((⟨x.toArray⟩ : ByteArray).toList != (⟨x.toArray⟩ : ByteArray).toList) = false := by simp
  clear HS
  generalize ByteArray.mk x.toArray = X at *
  go_enter Tryd.func14, Tryd.ntmps14
  go_wp2
  go_loopw [9] (fun iv wr => ∃ (k : Nat), k ≤ n ∧ iv = .int .i64 (k : Int) ∧ wr = w) (fun iv _ => n - (intOf iv).toNat)
  case atStart => exact ⟨0, by omega, rfl, rfl⟩
  case round =>
    obtain ⟨k, hk, rfl, rfl⟩ := hrel
    by_cases hlt : k < n
    · obtain ⟨g, o, rfl, h1⟩ := CE.out k hlt
      go_wp2
      go_roundw
      case rel => exact ⟨k + 1, by omega, by go_num, trivial⟩
      case measure => simp [intOf]; omega
    · go_wp2
      go_ret
      exact ⟨rfl, rfl⟩

theorem set_next {n k : Nat} {x : List UInt8} {l : Ws} (hk : k < l.length) : (txW (List.replicate k x ++ l.drop k)).set k (.string ⟨x.toArray⟩) = txW (List.replicate (k + 1) x ++ l.drop (k + 1)) := by
  rw [show (Value.string ⟨x.toArray⟩) = (fun y : List UInt8 => Value.string ⟨y.toArray⟩) x from rfl, txW, ← List.map_set]
  unfold txW
  congr 1
  rw [List.set_append_right _ _ (by simp), List.length_replicate, Nat.sub_self, List.drop_eq_getElem_cons hk, List.set_cons_zero, List.replicate_succ']
  simp

set_option maxHeartbeats 1600000 in
set_option maxRecDepth 1000000 in
theorem spoil_any {v : Value} {l : Ws} {x : List UInt8} {cs : List Comp} {w : World} (h : All (ownC 9 v (txW l) :: cs) w) (hl : l.length + 4 ≤ 1000000000000) :
    Calls Tryd.prog 13 #[v, .string ⟨x.toArray⟩] w fun e w' => ∃ v', e = .returned v' ∧ All (ownC 9 v' (txW (List.replicate (l.length + 4) x)) :: cs) w' := by
  obtain ⟨ao, c, rfl⟩ := owns_form (h.1.2.1 : w.ownsRow 0 9 1 v _ _)
  rw [txW_length] at *
  have A0 := hid h
  clear h
  generalize hn : l.length = n at *
  have HN := hid hn
  clear hn
  have AP : Hid (∀ (v : Value) (k : Nat) (W : World), All (ownC 9 v (txW (List.replicate k x)) :: cs) W → k + 1 ≤ 1000000000000 → ∃ ao c w', (Builtin.append_ #[28, 28] 28 #[v, .slice (some ⟨W.heap.size, 0, none⟩) 1 1]).run Tryd.prog (W.alloc (.cells #[.string ⟨x.toArray⟩] 9)) = .ok (.slice ao (k + 1) c) w' ∧ All (ownC 9 (.slice ao (k + 1) c) (txW (List.replicate (k + 1) x)) :: cs) w') := hid (fun v k W A hk => by
    obtain ⟨ao, c, w', hr, A2⟩ := app_txt A x (by rw [List.length_replicate]; exact hk)
    rw [List.length_replicate] at hr A2
    refine ⟨ao, c, w', hr, ?_⟩
    rw [List.replicate_succ']
    exact A2)
  have NX : Hid (∀ k, k < n → (txW (List.replicate k x ++ l.drop k)).set k (.string ⟨x.toArray⟩) = txW (List.replicate (k + 1) x ++ l.drop (k + 1))) := hid (fun k hk => set_next (n := n) (by rw [HN.out]; exact hk))
  have LE : Hid (∀ k, k ≤ n → (txW (List.replicate k x ++ l.drop k)).length = n) := hid (fun k hk => by rw [txW_length]; simp; have := HN.out; omega)
  have EX : Hid (∀ k, k < n → ∃ u, (txW (List.replicate k x ++ l.drop k))[k]? = some u) := hid (fun k hk => by
    refine ⟨_, List.getElem?_eq_getElem (by rw [LE.out k (by omega)]; exact hk)⟩)
  generalize hX : ByteArray.mk x.toArray = X at *
  clear hX
  go_enter Tryd.func13, Tryd.ntmps13
  go_wp2
  go_loopw [8] (fun iv wr => ∃ (k : Nat), k ≤ n ∧ iv = .int .i64 (k : Int) ∧ Hid (All (ownC 9 (.slice ao n c) (txW (List.replicate k x ++ l.drop k)) :: cs) wr)) (fun iv _ => n - (intOf iv).toNat)
  case atStart => exact ⟨0, by omega, rfl, hid (by simpa using A0.out)⟩
  case round =>
    obtain ⟨k, hk, rfl, hA⟩ := hrel
    by_cases hlt : k < n
    · obtain ⟨u, hu⟩ := EX.out k hlt
      obtain ⟨g, hg, hc, hf⟩ := owns_at (hA.out.1.2.1) hu
      subst hg
      have A2 := hid (All.setOwn (k := k) (u := .string X) hA.out)
      clear hu
      go_wp2
      go_roundw
      case rel => exact ⟨k + 1, by omega, by go_num, hid (by rw [← NX.out k hlt]; exact A2.out)⟩
      case measure => simp [intOf]; omega
    · have ek : k = n := by omega
      have A1 : Hid (All (ownC 9 (.slice ao n c) (txW (List.replicate n x)) :: cs) wr) := hid (by
        have := hA.out
        rw [ek, List.drop_eq_nil_of_le (by rw [HN.out]; omega), List.append_nil] at this
        exact this)
      clear ek hA A0
      go_wp2
      go_loopw [0, 16] (fun sv iv wr => ∃ (k : Nat) (ao : Option Addr) (c : Nat), k ≤ 4 ∧ iv = .int .i64 (k : Int) ∧ sv = .slice ao (n + k) c ∧ Hid (All (ownC 9 (.slice ao (n + k) c) (txW (List.replicate (n + k) x)) :: cs) wr)) (fun _ iv _ => 4 - (intOf iv).toNat)
      case atStart => exact ⟨0, ao, c, by omega, rfl, rfl, A1⟩
      case round =>
        obtain ⟨k, ao, c, hk, rfl, rfl, hA⟩ := hrel
        by_cases hlt4 : k < 4
        · have hlt5 : (k : Int) < 4 := by omega
          obtain ⟨ao2, c2, w2, hr, A2⟩ := AP.out _ (n + k) wr hA.out (by omega)
          have R := hid hr
          have A3 := hid A2
          clear hr A2
          generalize hnk : n + k = nk at *
          have HNK := hid hnk
          clear hnk
          go_wp2_with (at_builtin; refine wpList_append_run rfl _ _ 28 rfl _ _ _ _ rfl rfl R.out ?_)
          go_roundw
          case rel => exact ⟨k + 1, ao2, c2, by omega, by go_num, by rw [← Nat.add_assoc, HNK.out], hid (by rw [← Nat.add_assoc, HNK.out]; exact A3.out)⟩
          case measure => simp [intOf]; omega
        · have hlt5 : ¬ (k : Int) < 4 := by omega
          have ek := hid (show k = 4 by omega)
          go_wp2
          go_ret
          refine ⟨.slice ao (n + k) c, rfl, ?_⟩
          rw [show n + 4 = n + k by rw [ek.out]]
          exact hA.out
theorem rt_two (w : World) (x y : List UInt8) : Rt (w.alloc (.cells #[.string ⟨x.toArray⟩, .string ⟨y.toArray⟩] 9)) (.slice (some ⟨w.heap.size, 0, none⟩) 2 2) [x, y] := by
  refine ⟨some ⟨w.heap.size, 0, none⟩, 2, rfl, by simp, Or.inr ⟨w.heap.size, 0, rfl, by simp, fun j hj => ?_⟩⟩
  rw [cell_at (heap_alloc_new w _)]
  match j with
  | 0 => rfl
  | 1 => rfl
  | j + 2 => simp at hj; omega

theorem own9 {v : Value} {l : Ws} {cs : List Comp} {w : World} (h : All (ownC 9 v (txW l) :: cs) w) : ∃ ao c, v = .slice ao l.length c := by
  have := owns_form (h.1.2.1 : w.ownsRow 0 9 1 v _ _)
  rw [txW_length] at this
  exact this


end Go.Proofs.YtgmjjopfpenceaaDoor
