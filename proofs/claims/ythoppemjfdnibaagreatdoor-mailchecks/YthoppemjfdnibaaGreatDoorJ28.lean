import Derived.Test.YthoppemjfdnibaaGreatDoorJ25
import Derived.Test.YthoppemjfdnibaaGreatDoorJ27
import Derived.Deep.Draws
import Derived.Deep.Upon
import Derived.Deep.QuietTactic
import Derived.BigQuiet
namespace Go.Proofs.YthoppemjfdnibaaGreatDoor
open Go.RowKit
set_option linter.unusedVariables false


/-- Bytes that came in: an empty list may lie anywhere. -/
def ReadsW (w : World) (s : Value) (l : List UInt8) : Prop := Reads w s l ∨ (l = [] ∧ ∃ a c, s = .slice (some a) 0 c)

theorem ReadsW.below {w w' : World} {s : Value} {l : List UInt8} (h : ReadsW w s l) (hw : Below w.heap.size w w') : ReadsW w' s l := by
  rcases h with h | h
  · exact Or.inl (h.below hw)
  · exact Or.inr h

theorem ReadsW.form {w : World} {s : Value} {l : List UInt8} (h : ReadsW w s l) : ∃ ao c, s = .slice ao l.length c := by
  rcases h with h | ⟨rfl, a, c, rfl⟩
  · exact h.form
  · exact ⟨some a, c, rfl⟩

theorem ReadsW.at_u8 {w : World} {ao : Option Addr} {n c : Nat} {l : List UInt8} (h : ReadsW w (.slice ao n c) l) (k : Nat) (hk : k < l.length) : ∃ g o, ao = some ⟨g, o, none⟩ ∧ w.cell? ⟨g, o + k, none⟩ = some (.int .u8 ((l.getD k 0).toNat : Int)) := by
  rcases h with h | ⟨rfl, _⟩
  · exact h.at k hk
  · simp at hk



set_option maxHeartbeats 1600000 in
set_option maxRecDepth 1000000 in
/-- Texts that are alike. -/
theorem sameTexts_true {w : World} {s t : Value} {l : List ByteArray} (hs : Txts w s l) (ht : Txts w t l) (hlen : l.length ≤ 140737488355328) :
    Calls Tryz.prog 70 #[s, t] w fun e w' => e = .returned (.bool true) ∧ Below w.heap.size w w' := by
  obtain ⟨ao, c, hf⟩ := hs.form
  obtain ⟨ao', c', hf'⟩ := ht.form
  subst hf hf'
  have HS := hid hs
  have HT := hid ht
  clear hs ht
  go_enter Tryz.func70, Tryz.ntmps70
  go_wp2
  go_loopw [5] (fun iv wr => ∃ (k q : Nat), k ≤ l.length ∧ iv = .int .i64 (k : Int) ∧ wr = w.drewN q) (fun iv _ => l.length - (intOf iv).toNat)
  case atStart => exact ⟨0, 0, by omega, rfl, rfl⟩
  case round =>
    obtain ⟨k, q, hk, rfl, rfl⟩ := hrel
    by_cases hlt : k < l.length
    · obtain ⟨g, o, rfl, _, h1⟩ := HS.out.at hlt
      obtain ⟨g', o', rfl, _, h2⟩ := HT.out.at hlt
      generalize l[k] = x at h1 h2
      have hb : (x.toList == x.toList) = true := by simp
      go_wp2
      go_region
      go_wp2
      go_roundw
      case rel => exact ⟨k + 1, q + 1, by omega, by go_num, by simp⟩
      case measure => simp [intOf]; omega
    · go_wp2
      go_ret
      exact ⟨rfl, ⟨rfl, rfl, rfl, Nat.le_refl _, fun _ _ => rfl⟩⟩



theorem srcNil {w : World} {size : Nat} {tx e' : TypeId} (hk : Tryz.prog.underlying tx = some (.slice e')) (ao : Option Addr) (c : Nat) : Src Tryz.prog size tx (.slice ao 0 c) 0 [] w := by
  cases ao with
  | none => exact Src.ofNil w hk c
  | some a => exact Src.ofSlice w hk a 0 c [] (by simp) (fun j u h => by simp at h) (fun u h => by simp at h)
theorem wpList_append_run {P : Program} {w : World} {ops : Array Oper} {rest : List Oper} {o : Oper} {a : Act} {Q : Exit → Act → World → Prop} (hgd : o.guard = none) (s x : Operand) (t : TypeId)
    (ho : o.op = .call { callee := .builtin .append, args := #[s, x], argTypes := #[t, t] }) (v1 v2 v' : Value) (w' : World) (hs : a.eval s = v1) (hx : a.eval x = v2)
    (hr : (Builtin.append_ #[t, t] o.type #[v1, v2]).run P w = .ok v' w') (h : wpList P ops Q rest (a.put o.dst v') w') : wpList P ops Q (o :: rest) a w := by
  refine wpList_plain hgd fun K hK => ?_
  unfold Oper.wp execOp
  simp only [ho, resolve, invoke, builtin, Sem.run_bind, Sem.run_pure, Result.andThen_ok, List.map_toArray, List.map_cons, List.map_nil, hs, hx, hr]
  exact hK _ _ h
theorem one_new {x : Value} {H : Nat} {W : World} (hc : W.cell? ⟨H, 0, none⟩ = some x) : ∀ j u, [x][j]? = some u → W.cell? ((⟨H, 0, none⟩ : Addr).add j) = some u := by
  intro j u hu
  rw [Addr.add_lit]
  match j with
  | 0 => simp only [List.getElem?_cons_zero, Option.some.injEq] at hu; subst hu; simpa using hc
  | j + 1 => simp at hu
theorem one_cell {x : Value} (h : x.oneCell' = true) : ∀ u ∈ [x], u.oneCell' = true := by
  intro u hu
  simp only [List.mem_cons, List.not_mem_nil, or_false] at hu
  subst hu
  exact h

/-- One more is laid behind one's own. -/
theorem app1 {W : World} {e t : TypeId} {i : TypeInfo} {z v x : Value} {bytes H : Nat} {us : List Value} {cs : List Comp} (hu : Tryz.prog.underlying t = some (.slice e)) (hi : Tryz.prog.info? e = some i) (hz : i.zero = some z) (hsize : i.size = 1) (hby : i.bytes = bytes) (hzs : z.cells.size = 1)
    (A : All (ownC e v us :: cs) W) (hc : W.cell? ⟨H, 0, none⟩ = some x) (h1 : x.oneCell' = true) (hl : us.length + 1 ≤ maxLen) (hl2 : (us.length + 1) * bytes ≤ 140737488355328) :
    ∃ ao c w', (Builtin.append_ #[t, t] t #[v, .slice (some ⟨H, 0, none⟩) 1 1]).run Tryz.prog W = .ok (.slice ao (us.length + 1) c) w' ∧ All (ownC e (.slice ao (us.length + 1) c) (us ++ [x]) :: cs) w' := by
  have hown : W.ownsRow 0 e 1 v us.length us := A.1.2.1
  obtain ⟨v', w', hr, h2, h3, h4, h5⟩ := run_append_own_at (P := Tryz.prog) W 0 t t e i z 1 bytes hu hi hz hsize hby hzs (by decide) v us.length us hown ⟨H, 0, none⟩ 1 1 [x] (by simp) (one_new hc) (one_cell h1) hl hl2 (by omega)
  obtain ⟨ao', c', rfl⟩ := owns_form h2
  refine ⟨ao', c', w', hr, A.ownGrow (vs' := us ++ [x]) (base := 0) ?_ h3 h5⟩
  rw [List.length_append]
  exact h2



theorem Tryz.und40 : Tryz.prog.underlying 40 = some (.slice 5) := by kernel_rfl

theorem All.addMadeB {cs : List Comp} {w : World} (h : All cs w) : All (ownC 5 (.slice (some ⟨w.heap.size, 0, none⟩) 0 0) (cellsB []) :: cs) (w.alloc (.cells #[] 5)) := by
  refine h.addOwn (ba w _) ?_
  have := World.ownsRow_made (base := w.heap.size) (e := 5) (size := 1) w #[] 0 (Nat.le_refl _) (by unfold maxLen; omega) rfl
  exact this

/-- Bytes are laid behind one's own. -/
theorem appB {W : World} {v v2 : Value} {l l2 : List UInt8} {cs : List Comp} (A : All (ownC 5 v (cellsB l) :: cs) W) (h2 : ReadsW W v2 l2) (hl : l.length + l2.length ≤ 140737488355100) :
    ∃ ao c w', (Builtin.append_ #[40, 40] 40 #[v, v2]).run Tryz.prog W = .ok (.slice ao (l.length + l2.length) c) w' ∧ All (ownC 5 (.slice ao (l.length + l2.length) c) (cellsB (l ++ l2)) :: cs) w' := by
  obtain ⟨i1, hi1, hz0, hz1, hz2⟩ := info_parts Tryz.info5
  have hown : W.ownsRow 0 5 1 v (cellsB l).length (cellsB l) := A.1.2.1
  obtain ⟨ao, c, rfl⟩ := owns_form hown
  have nothing : ∀ ao2 c2, l2 = [] → ∃ ao' c' w', (Builtin.append_ #[40, 40] 40 #[.slice ao (cellsB l).length c, .slice ao2 0 c2]).run Tryz.prog W = .ok (.slice ao' (l.length + l2.length) c') w' ∧ All (ownC 5 (.slice ao' (l.length + l2.length) c') (cellsB (l ++ l2)) :: cs) w' := by
    intro ao2 c2 e
    subst e
    refine ⟨ao, c, W, ?_, ?_⟩
    · have := run_append_nothing W 40 40 40 5 i1 Tryz.und40 hi1 ao (cellsB l).length c (owns_len hown).2 (.slice ao2 0 c2) (srcNil Tryz.und40 ao2 c2)
      simpa [cellsB_length] using this
    · simpa [cellsB_length] using A
  rcases h2 with ⟨ao2, c2, rfl, hc2, hx⟩ | ⟨rfl, a, c2, rfl⟩
  · rcases hx with ⟨rfl, rfl, rfl⟩ | ⟨g, o, rfl, hg, hcell⟩
    · exact nothing none 0 rfl
    · by_cases h0 : l2 = []
      · subst h0
        exact nothing _ c2 rfl
      · obtain ⟨v', w', hr, h2, h3, h4, h5⟩ := run_append_own_at (P := Tryz.prog) W 0 40 40 5 i1 (.int .u8 0) 1 1 Tryz.und40 hi1 hz0 hz1 hz2 rfl (by decide) (.slice ao (cellsB l).length c) (cellsB l).length (cellsB l) hown ⟨g, o, none⟩ l2.length c2 (cellsB l2) (by simp [cellsB_length])
          (fun j u hu => by rw [Addr.add_lit]; exact hcell j u hu) (fun u hu => by
            unfold cellsB at hu
            obtain ⟨y, _, rfl⟩ := List.mem_map.1 hu
            rfl) (by simp only [cellsB_length]; unfold maxLen; omega) (by simp only [cellsB_length]; omega) (by omega)
        obtain ⟨ao', c', rfl⟩ := owns_form h2
        have el : (cellsB l).length + l2.length = l.length + l2.length := by simp [cellsB_length]
        rw [el] at hr h2 h5
        refine ⟨ao', c', w', hr, A.ownGrow (vs' := cellsB (l ++ l2)) (base := 0) ?_ h3 h5⟩
        rw [cellsB_append, List.length_append, cellsB_length, cellsB_length]
        exact h2
  · exact nothing _ c2 rfl

set_option maxRecDepth 1000000 in
theorem copied_any {s : Value} {l : List UInt8} {cs : List Comp} {w : World} (h : All cs w) (hr : ReadsW w s l) (hl : l.length ≤ 140737488355100) : Calls Tryz.prog 30 #[s] w fun e w' => ∃ so sc, e = .returned (.slice so l.length sc) ∧ All (ownC 5 (.slice so l.length sc) (cellsB l) :: cs) w' := by
  obtain ⟨so, sc, w2, hr2, A2⟩ := appB h.addMadeB (hr.below (ba w _)) (by simp; omega)
  rw [List.nil_append, List.length_nil, Nat.zero_add] at A2
  rw [List.length_nil, Nat.zero_add] at hr2
  obtain ⟨ao, c, rfl⟩ := hr.form
  have R2 := hid hr2
  have A2 := hid A2
  clear h hr hr2
  go_enter Tryz.func30, Tryz.ntmps30
  go_wp2_with (at_builtin; refine wpList_append_run rfl _ _ 40 rfl _ _ _ _ rfl rfl R2.out ?_)
  go_ret
  exact ⟨so, sc, rfl, A2.out⟩

/-- A list with bytes behind it. -/
def lentB (l : List UInt8) (k : Nat) : List UInt8 := l ++ List.replicate k 165
theorem lentB_len (l : List UInt8) (k : Nat) : (lentB l k).length = l.length + k := by simp [lentB]

set_option maxRecDepth 1000000 in
theorem lent_any {s : Value} {l : List UInt8} {cs : List Comp} {w : World} (h : All cs w) (hr : ReadsW w s l) (hl : l.length ≤ 140737488355000) : Calls Tryz.prog 24 #[s] w fun e w' => ∃ so sc, e = .returned (.slice so (l.length + 8) sc) ∧ All (ownC 5 (.slice so (l.length + 8) sc) (cellsB (lentB l 8)) :: cs) w' := by
  obtain ⟨i1, hi1, hz0, hz1, hz2⟩ := info_parts Tryz.info5
  have C0 := hid (copied_any h hr (by omega))
  clear h hr
  obtain ⟨n, hn⟩ : ∃ n, Hid (n = l.length) := ⟨_, hid rfl⟩
  rw [← hn.out] at C0 hl ⊢
  go_enter Tryz.func24, Tryz.ntmps24
  go_wp2_with fail
  refine C0.out.mono ?_
  rintro e w1 ⟨so, sc, rfl, A1⟩
  have A1 := hid A1
  clear C0
  go_wp2
  go_loopw [3, 4] (fun lv kv wr => ∃ (k : Nat) (la : Option Addr) (lc : Nat), k ≤ 8 ∧ kv = .int .i64 (k : Int) ∧ lv = .slice la (n + k) lc ∧ Hid (All (ownC 5 (.slice la (n + k) lc) (cellsB (lentB l k)) :: cs) wr)) (fun _ kv _ => 8 - (intOf kv).toNat)
  case atStart => exact ⟨0, so, sc, by omega, rfl, rfl, hid (by simpa [lentB] using A1.out)⟩
  case round =>
    clear A1
    obtain ⟨k, la, lc, hk, rfl, rfl, hrel⟩ := hrel
    by_cases hlt : k < 8
    · have hlen : Hid ((cellsB (lentB l k)).length = n + k) := hid (by rw [cellsB_length, lentB_len, hn.out])
      obtain ⟨ao, c, w2, hr2, A2⟩ := app1 Tryz.und40 hi1 hz0 hz1 hz2 rfl (hrel.out.alloc (.cells #[.int .u8 165] 5)) (H := wr.heap.size) (x := .int .u8 165) (by rw [cell_at (heap_alloc_new wr _)]; rfl) rfl (by rw [hlen.out]; unfold maxLen; omega) (by rw [hlen.out]; omega)
      rw [hlen.out] at hr2 A2
      have es : cellsB (lentB l k) ++ [.int .u8 165] = cellsB (lentB l (k + 1)) := by
        simp [lentB, cellsB, List.replicate_succ']
      rw [es] at A2
      have R2 := hid hr2
      have A2 := hid A2
      clear hr2 hrel es
      go_wp2_with (at_builtin; refine wpList_append_run rfl _ (.tmp 12) 40 rfl _ _ _ _ rfl rfl R2.out ?_)
      clear R2
      go_roundw
      case rel => exact ⟨k + 1, ao, c, by omega, by go_num, rfl, A2⟩
      case measure => simp [intOf]; omega
    · have hk8 : k = 8 := by omega
      subst hk8
      go_wp2
      go_ret
      exact ⟨la, lc, rfl, hrel.out⟩

theorem lent_low (l : List UInt8) (k : Nat) (h : k < l.length) : (lentB l 8).getD k 0 = l.getD k 0 := by
  unfold lentB
  rw [List.getD_eq_getElem?_getD, List.getD_eq_getElem?_getD, List.getElem?_append_left h]
theorem lent_high (l : List UInt8) (k : Nat) (h : l.length ≤ k) (h2 : k < l.length + 8) : (lentB l 8).getD k 0 = 165 := by
  unfold lentB
  rw [List.getD_eq_getElem?_getD, List.getElem?_append_right h, List.getElem?_replicate, if_pos (by omega)]
  rfl

set_option maxHeartbeats 3200000 in
set_option maxRecDepth 1000000 in
theorem still_any {w : World} {s t : Value} {l : List UInt8} (hs : Reads w s (lentB l 8)) (ht : ReadsW w t l) (hlen : l.length ≤ 140737488355100) :
    Calls Tryz.prog 28 #[s, t] w fun e w' => e = .returned (.bool true) ∧ ∃ q, w' = w.drewN q := by
  obtain ⟨ao, c, hf⟩ := hs.form
  obtain ⟨ao', c', hf'⟩ := ht.form
  subst hf hf'
  have HS := hid hs
  have HT := hid ht
  rw [lentB_len] at HS ⊢
  clear hs ht
  go_enter Tryz.func28, Tryz.ntmps28
  go_wp2
  go_loopw [5] (fun iv wr => ∃ (k q : Nat), k ≤ l.length + 8 ∧ iv = .int .i64 (k : Int) ∧ wr = w.drewN q) (fun iv _ => l.length + 8 - (intOf iv).toNat)
  case atStart => exact ⟨0, 0, by omega, rfl, rfl⟩
  case round =>
    obtain ⟨k, q, hk, rfl, rfl⟩ := hrel
    by_cases hlt : k < l.length + 8
    · obtain ⟨g, o, rfl, h1⟩ := HS.out.at_u8 k (by rw [lentB_len]; exact hlt)
      by_cases hlow : k < l.length
      · obtain ⟨g', o', rfl, h2⟩ := HT.out.at_u8 k hlow
        rw [lent_low l k hlow] at h1
        obtain ⟨x, hx⟩ : ∃ x : Nat, x = (l.getD k 0).toNat := ⟨_, rfl⟩
        rw [← hx] at h1 h2
        clear hx
        have hb : ((x : Int) != (x : Int)) = false := by simp
        have hb2 : (k : Int) < (l.length : Int) := by omega
        have hb3 : decide (l.length ≤ k) = false := by simp; omega
        go_wp2_with fail
        go_quiet (fail)
        go_wp2
        go_roundw
        case rel => exact ⟨k + 1, _, by omega, by go_num, rfl⟩
        case measure => simp [intOf]; omega
      · rw [lent_high l k (by omega) hlt] at h1
        have hb2 : decide ((k : Int) < (l.length : Int)) = false := by simp; omega
        have hb4 : decide (k < l.length) = false := by simp; omega
        have hb3 : (l.length : Int) ≤ (k : Int) := by omega
        have h1' : w.cell? ⟨g, o + k, none⟩ = some (.int .u8 165) := h1
        clear h1
        go_wp2_with fail
        go_quiet (fail)
        go_wp2
        go_roundw
        case rel => exact ⟨k + 1, _, by omega, by go_num, rfl⟩
        case measure => simp [intOf]; omega
    · go_wp2
      go_ret
      exact ⟨rfl, q, rfl⟩
/-- A row of one's own, whatever its elements' size. -/
def rowC (e : TypeId) (size : Nat) (v : Value) (n : Nat) (vs : List Value) : Comp := ⟨fun w => w.ownsRow 0 e size v n vs, v.ownBlock.toList⟩
theorem owns_keep {w w' : World} {e : TypeId} {size n : Nat} {v : Value} {vs : List Value} (h : w.ownsRow 0 e size v n vs) (hb : ∀ k ∈ v.ownBlock.toList, w'.heap[k]? = w.heap[k]?) : w'.ownsRow 0 e size v n vs :=
  ⟨h.1, by
    rcases h.2 with hn | ⟨g, cap, cur, rfl, hg, hgg, rest⟩
    · exact Or.inl hn
    · exact Or.inr ⟨g, cap, cur, rfl, hg, by rw [hb g (by simp [Value.ownBlock])]; exact hgg, rest⟩⟩
theorem rowC_good (e : TypeId) (size : Nat) (v : Value) (n : Nat) (vs : List Value) : (rowC e size v n vs).Good := fun w w' h hs hb => owns_keep h hb
theorem All.addRow0 {e : TypeId} {size : Nat} {cs : List Comp} {w : World} (h : All cs w) : All (rowC e size (.slice none 0 0) 0 [] :: cs) w :=
  ⟨⟨rowC_good _ _ _ _ _, ⟨by simp, Or.inl ⟨rfl, rfl⟩⟩, fun k hk => by simp [rowC, Value.ownBlock] at hk⟩, fun d hd k hk => by simp [rowC, Value.ownBlock] at hk, h⟩
theorem All.rowGrow {e : TypeId} {size n n' : Nat} {v v' : Value} {vs vs' : List Value} {cs : List Comp} {w w1 : World} {base : Nat} (h : All (rowC e size v n vs :: cs) w) (hown : w1.ownsRow base e size v' n' vs') (hg : w.grownBy w1 v.ownBlock) (hat : v'.ownBlock = v.ownBlock ∨ v'.ownBlock = some w.heap.size) : All (rowC e size v' n' vs' :: cs) w1 := by
  have ho' := owns_zero hown
  refine h.turn ((grown_fr hg).mono (fun k hk => by simpa [rowC] using hk)) (rowC_good _ _ _ _ _) ho' (fun k hk => ?_) (fun k hk => ?_)
  · have hk' : v'.ownBlock = some k := by simpa [rowC] using hk
    rcases hat with e1 | e1
    · exact Or.inl (by simp [rowC, ← e1, hk'])
    · rw [e1] at hk'; simp at hk'; exact Or.inr (by omega)
  · have hk' : v'.ownBlock = some k := by simpa [rowC] using hk
    exact (ho'.lt k hk').2


/-- Elements are laid behind a row of one's own. -/
theorem appN {W : World} {e t : TypeId} {i : TypeInfo} {z v : Value} {size bytes n m c : Nat} {us news : List Value} {cs : List Comp} (hu : Tryz.prog.underlying t = some (.slice e)) (hi : Tryz.prog.info? e = some i) (hz : i.zero = some z) (hsize : i.size = size) (hby : i.bytes = bytes) (hzs : z.cells.size = size) (hsz : 0 < size)
    (A : All (rowC e size v n us :: cs) W) (ao2 : Option Addr) (hl : news.length = m * size) (hnews : 0 < m → ∃ a, ao2 = some a ∧ ∀ j u, news[j]? = some u → W.cell? (a.add j) = some u) (h1 : ∀ u ∈ news, u.oneCell' = true) (h63 : n + m ≤ maxLen) (hb : (n + m) * bytes ≤ 140737488355328) :
    ∃ ao cap w', (Builtin.append_ #[t, t] t #[v, .slice ao2 m c]).run Tryz.prog W = .ok (.slice ao (n + m) cap) w' ∧ All (rowC e size (.slice ao (n + m) cap) (n + m) (us ++ news) :: cs) w' := by
  have hown : W.ownsRow 0 e size v n us := A.1.2.1
  by_cases hm : 0 < m
  · obtain ⟨a, rfl, hc⟩ := hnews hm
    obtain ⟨v', w', hr, h2, h3, h4, h5⟩ := run_append_own_at (P := Tryz.prog) W 0 t t e i z size bytes hu hi hz hsize hby hzs hsz v n us hown a m c news hl hc h1 h63 hb (by omega)
    obtain ⟨ao, cap, rfl⟩ := owns_form h2
    exact ⟨ao, cap, w', hr, A.rowGrow (base := 0) h2 h3 h5⟩
  · have hm0 : m = 0 := by omega
    subst hm0
    have hn0 : news = [] := List.length_eq_zero_iff.1 (by omega)
    subst hn0
    subst hsize
    rw [List.append_nil]
    rcases hown.2 with ⟨rfl, rfl⟩ | ⟨g, cap, cur, rfl, _, _, hle, _⟩
    · exact ⟨none, 0, W, run_append_nothing W t t t e i hu hi none 0 0 (Nat.le_refl _) _ (srcNil hu ao2 c), A⟩
    · exact ⟨_, cap, W, run_append_nothing W t t t e i hu hi _ n cap hle _ (srcNil hu ao2 c), A⟩
theorem All.addRowE {cs : List Comp} {w : World} (h : All cs w) (e : TypeId) (size : Nat) : All (rowC e size (.slice (some ⟨w.heap.size, 0, none⟩) 0 0) 0 [] :: cs) (w.alloc (.cells #[] e)) := by
  refine h.add (Fr.below (ba w _)) (rowC_good _ _ _ _ _) ?_ (fun k hk => ?_)
  · exact ⟨by simp, Or.inr ⟨w.heap.size, 0, #[], rfl, Nat.zero_le _, heap_alloc_new w _, Nat.le_refl _, by unfold maxLen; omega, by simp, by simp⟩⟩
  · have : k = w.heap.size := by simpa [rowC, Value.ownBlock, eq_comm] using hk
    subst this
    exact ⟨Nat.le_refl _, by simp⟩
/-- A row of one's own is read. -/
theorem row_at {w : World} {base : Nat} {e : TypeId} {size : Nat} {ao : Option Addr} {n c n' : Nat} {us : List Value} (h : w.ownsRow base e size (.slice ao n' c) n us) {k : Nat} {u : Value} (hu : us[k]? = some u) : ∃ g, ao = some ⟨g, 0, none⟩ ∧ g < w.heap.size ∧ w.cell? ⟨g, k, none⟩ = some u := by
  have hk := (List.getElem?_eq_some_iff.1 hu).1
  have hl := h.1
  rcases h.2 with ⟨e, e2⟩ | ⟨g, cap, cur, e, _, hg, hn, hm, hcs, ht⟩
  · subst e2; omega
  · simp only [Value.slice.injEq] at e
    refine ⟨g, e.1, (Array.getElem?_eq_some_iff.1 hg).1, ?_⟩
    rw [cell_at hg, ← Array.getElem?_toList]
    rw [← ht, List.getElem?_take, if_pos (by omega)] at hu
    exact hu
theorem row_cap {w : World} {base : Nat} {e : TypeId} {size : Nat} {ao : Option Addr} {n c n' : Nat} {us : List Value} (h : w.ownsRow base e size (.slice ao n' c) n us) : n' = n ∧ n ≤ c ∧ c ≤ maxLen := by
  rcases h.2 with ⟨e, e2⟩ | ⟨g, cap, cur, e, _, hg, hn, hm, hcs, ht⟩
  · simp only [Value.slice.injEq] at e
    obtain ⟨_, rfl, rfl⟩ := e
    exact ⟨e2.symm, by omega, by unfold maxLen; omega⟩
  · simp only [Value.slice.injEq] at e
    obtain ⟨_, rfl, rfl⟩ := e
    exact ⟨rfl, hn, hm⟩
end Go.Proofs.YthoppemjfdnibaaGreatDoor

namespace Go.Proofs.YthoppemjfdnibaaGreatDoor
open Go.RowKit
set_option linter.unusedVariables false

theorem flat_len {α : Type} {f : α → List Value} {s : Nat} (hf : ∀ x, (f x).length = s) (l : List α) : (l.flatMap f).length = l.length * s := by
  induction l with
  | nil => simp
  | cons x l ih => rw [List.flatMap_cons, List.length_append, ih, hf, List.length_cons, Nat.succ_mul]; omega
theorem flat_at {α : Type} {f : α → List Value} {s : Nat} (hf : ∀ x, (f x).length = s) {l : List α} {i : Nat} {x : α} (hx : l[i]? = some x) {j : Nat} (hj : j < s) : (l.flatMap f)[i * s + j]? = (f x)[j]? := by
  induction l generalizing i with
  | nil => simp at hx
  | cons y l ih =>
    rw [List.flatMap_cons]
    cases i with
    | zero =>
      simp only [List.getElem?_cons_zero, Option.some.injEq] at hx
      subst hx
      rw [Nat.zero_mul, Nat.zero_add, List.getElem?_append_left (by rw [hf]; exact hj)]
    | succ i =>
      simp only [List.getElem?_cons_succ] at hx
      rw [List.getElem?_append_right (by rw [hf, Nat.succ_mul]; omega), hf, ← ih hx]
      congr 1
      rw [Nat.succ_mul]; omega
theorem flat_one {α : Type} {f : α → List Value} (hf : ∀ x, ∀ u ∈ f x, u.oneCell' = true) (l : List α) : ∀ u ∈ l.flatMap f, u.oneCell' = true := by
  intro u hu
  obtain ⟨x, _, h⟩ := List.mem_flatMap.1 hu
  exact hf x u h
/-- Cells that are read element by element are read as a row. -/
theorem flat_src {α : Type} {f : α → List Value} {s : Nat} (hs : 0 < s) (hf : ∀ x, (f x).length = s) {W : World} {ao : Option Addr} {l : List α} (h : ∀ (i : Nat) (x : α), l[i]? = some x → ∃ g o, ao = some ⟨g, o, none⟩ ∧ g < W.heap.size ∧ ∀ j u, (f x)[j]? = some u → W.cell? ⟨g, o + i * s + j, none⟩ = some u) :
    0 < l.length → ∃ a, ao = some a ∧ ∀ j u, (l.flatMap f)[j]? = some u → W.cell? (a.add j) = some u := by
  intro h0
  obtain ⟨g, o, rfl, _, _⟩ := h 0 _ (List.getElem?_eq_getElem h0)
  refine ⟨_, rfl, fun j u hu => ?_⟩
  have hj : j < l.length * s := by have := (List.getElem?_eq_some_iff.1 hu).1; rwa [flat_len hf] at this
  have hd : j / s < l.length := Nat.div_lt_of_lt_mul (by rw [Nat.mul_comm]; exact hj)
  obtain ⟨g', o', e, _, hc⟩ := h (j / s) _ (List.getElem?_eq_getElem hd)
  cases e
  have hm : j % s < s := Nat.mod_lt _ hs
  have h1 := flat_at hf (List.getElem?_eq_getElem hd) hm
  have h2 : j / s * s + j % s = j := by rw [Nat.mul_comm]; exact Nat.div_add_mod j s
  rw [h2, hu] at h1
  have h3 := hc (j % s) u h1.symm
  rw [Addr.add_lit]
  rw [show o + j / s * s + j % s = o + j by omega] at h3
  exact h3
/-- A row of one's own is read element by element. -/
theorem flat_row {α : Type} {f : α → List Value} {s : Nat} (hf : ∀ x, (f x).length = s) {W : World} {base : Nat} {e : TypeId} {ao : Option Addr} {n n' c : Nat} {l : List α} (hs : 0 < s) (h : W.ownsRow base e s (.slice ao n' c) n (l.flatMap f)) :
    ∀ (i : Nat) (x : α), l[i]? = some x → ∃ g o, ao = some ⟨g, o, none⟩ ∧ g < W.heap.size ∧ ∀ j u, (f x)[j]? = some u → W.cell? ⟨g, o + i * s + j, none⟩ = some u := by
  intro i x hx
  have hi := (List.getElem?_eq_some_iff.1 hx).1
  have hat : ∀ j u, (f x)[j]? = some u → ∃ g, ao = some ⟨g, 0, none⟩ ∧ g < W.heap.size ∧ W.cell? ⟨g, i * s + j, none⟩ = some u := by
    intro j u hu
    have hj : j < s := by have := (List.getElem?_eq_some_iff.1 hu).1; rwa [hf] at this
    exact row_at h (by rw [flat_at hf hx hj]; exact hu)
  obtain ⟨g, rfl, hg, _⟩ := hat 0 _ (List.getElem?_eq_getElem (by rw [hf]; exact hs))
  refine ⟨g, 0, rfl, hg, fun j u hu => ?_⟩
  obtain ⟨g', e, _, hc⟩ := hat j u hu
  cases e
  rw [Nat.zero_add]
  exact hc
theorem Ent.len (e : Ent) : e.cells.length = 7 := rfl
theorem Sh.len (e : Sh) : e.cells.length = 3 := rfl
theorem Ent.one (e : Ent) : ∀ u ∈ e.cells, u.oneCell' = true := by
  intro u hu
  simp only [Ent.cells, List.mem_cons, List.not_mem_nil, or_false] at hu
  rcases hu with rfl | rfl | rfl | rfl | rfl | rfl | rfl <;> rfl
theorem Sh.one (e : Sh) : ∀ u ∈ e.cells, u.oneCell' = true := by
  intro u hu
  simp only [Sh.cells, List.mem_cons, List.not_mem_nil, or_false] at hu
  rcases hu with rfl | rfl | rfl <;> rfl
def txV (l : List ByteArray) : List Value := l.map Value.string
theorem txV_len (l : List ByteArray) : (txV l).length = l.length := by simp [txV]
theorem txV_one (l : List ByteArray) : ∀ u ∈ txV l, u.oneCell' = true := by
  intro u hu
  obtain ⟨x, _, rfl⟩ := List.mem_map.1 hu
  rfl
theorem Txts.src {W : World} {ao : Option Addr} {n c : Nat} {l : List ByteArray} (h : Txts W (.slice ao n c) l) : 0 < l.length → ∃ a, ao = some a ∧ ∀ j u, (txV l)[j]? = some u → W.cell? (a.add j) = some u := by
  intro h0
  obtain ⟨ao', c', e, _, hx⟩ := h
  simp only [Value.slice.injEq] at e
  obtain ⟨rfl, _, _⟩ := e
  rcases hx with rfl | ⟨g, o, rfl, hg, hc⟩
  · simp at h0
  · refine ⟨_, rfl, fun j u hu => ?_⟩
    unfold txV at hu
    rw [List.getElem?_map] at hu
    obtain ⟨y, hy, rfl⟩ := Option.map_eq_some_iff.1 hu
    obtain ⟨hj, rfl⟩ := List.getElem?_eq_some_iff.1 hy
    rw [Addr.add_lit]
    exact hc j hj
theorem Txts.row {W : World} {base : Nat} {ao : Option Addr} {n' n c : Nat} {l : List ByteArray} (h : W.ownsRow base 9 1 (.slice ao n' c) n (txV l)) (k : Nat) (hk : k ≤ l.length) : Txts W (.slice ao k c) (l.take k) := by
  have hc := row_cap h
  have hl := h.1
  rw [txV_len] at hl
  refine ⟨ao, c, by rw [List.length_take, Nat.min_eq_left hk], by rw [List.length_take]; omega, ?_⟩
  by_cases h0 : k = 0
  · left; subst h0; simp
  · right
    have hat : ∀ j (hj : j < l.length), ∃ g, ao = some ⟨g, 0, none⟩ ∧ g < W.heap.size ∧ W.cell? ⟨g, j, none⟩ = some (.string l[j]) := fun j hj => row_at h (by simp [txV, hj])
    obtain ⟨g, rfl, hg, _⟩ := hat 0 (by omega)
    refine ⟨g, 0, rfl, hg, fun j hj => ?_⟩
    have hj' : j < l.length := by rw [List.length_take] at hj; omega
    obtain ⟨g', e, _, hcc⟩ := hat j hj'
    cases e
    rw [Nat.zero_add, hcc, List.getElem_take]
theorem Ents.take {W : World} {ao : Option Addr} {l l2 : List Ent} (h : Ents W ao (l ++ l2)) : Ents W ao l := fun i x hx => h i x (by rw [List.getElem?_append_left (List.getElem?_eq_some_iff.1 hx).1]; exact hx)
theorem Shs.take {W : World} {ao : Option Addr} {l l2 : List Sh} (h : Shs W ao (l ++ l2)) : Shs W ao l := fun i x hx => h i x (by rw [List.getElem?_append_left (List.getElem?_eq_some_iff.1 hx).1]; exact hx)
theorem Tryz.info9 : (Tryz.prog.info? 9).map (fun i => (i.zero, i.size, i.bytes)) = some (some (.string ⟨#[]⟩), 1, 16) := by kernel_rfl
def zE : Ent := ⟨0, 0, 0, ⟨#[]⟩, ⟨#[]⟩, 0, 0⟩
def zS : Sh := ⟨0, 0, none, 0, 0⟩
theorem Tryz.info55 : (Tryz.prog.info? 55).map (fun i => (i.zero, i.size, i.bytes)) = some (some (.agg zE.cells.toArray), 7, 72) := by kernel_rfl
theorem Tryz.info57 : (Tryz.prog.info? 57).map (fun i => (i.zero, i.size, i.bytes)) = some (some (.agg zS.cells.toArray), 3, 40) := by kernel_rfl
theorem info55p : ∃ i1 : TypeInfo, ∃ z, Tryz.prog.info? 55 = some i1 ∧ i1.zero = some z ∧ i1.size = 7 ∧ i1.bytes = 72 ∧ z.cells.size = 7 := by
  obtain ⟨i1, hi1, hz0, hz1, hz2⟩ := info_parts Tryz.info55
  exact ⟨i1, _, hi1, hz0, hz1, hz2, rfl⟩
theorem info57p : ∃ i1 : TypeInfo, ∃ z, Tryz.prog.info? 57 = some i1 ∧ i1.zero = some z ∧ i1.size = 3 ∧ i1.bytes = 40 ∧ z.cells.size = 3 := by
  obtain ⟨i1, hi1, hz0, hz1, hz2⟩ := info_parts Tryz.info57
  exact ⟨i1, _, hi1, hz0, hz1, hz2, rfl⟩
theorem und26 : Tryz.prog.underlying 26 = some (.slice 9) := by kernel_rfl
theorem und29 : Tryz.prog.underlying 29 = some (.slice 55) := by kernel_rfl
theorem und30 : Tryz.prog.underlying 30 = some (.slice 57) := by kernel_rfl
/-- Texts behind a row of texts. -/
theorem appT {W : World} {v : Value} {n c k : Nat} {us : List ByteArray} {l : List ByteArray} {ao2 : Option Addr} {cs : List Comp} (A : All (rowC 9 1 v n (txV us) :: cs) W) (h2 : Txts W (.slice ao2 k c) l) (hk : k = l.length) (hb : (n + l.length) * 16 ≤ 140737488355328) :
    ∃ ao cap w', (Builtin.append_ #[26, 26] 26 #[v, .slice ao2 k c]).run Tryz.prog W = .ok (.slice ao (n + l.length) cap) w' ∧ All (rowC 9 1 (.slice ao (n + l.length) cap) (n + l.length) (txV (us ++ l)) :: cs) w' := by
  subst hk
  obtain ⟨i1, hi1, hz0, hz1, hz2⟩ := info_parts Tryz.info9
  have := appN (c := c) und26 hi1 hz0 hz1 hz2 rfl (by decide) A ao2 (news := txV l) (m := l.length) (by simp [txV]) h2.src (txV_one l) (by unfold maxLen; omega) hb
  rw [show txV (us ++ l) = txV us ++ txV l by simp [txV]]
  exact this
/-- Entries behind a row of entries. -/
theorem appEn {W : World} {v : Value} {n c k : Nat} {us l : List Ent} {ao2 : Option Addr} {cs : List Comp} (A : All (rowC 55 7 v n (us.flatMap Ent.cells) :: cs) W) (h2 : Ents W ao2 l) (hk : k = l.length) (hb : (n + l.length) * 72 ≤ 140737488355328) :
    ∃ ao cap w', (Builtin.append_ #[29, 29] 29 #[v, .slice ao2 k c]).run Tryz.prog W = .ok (.slice ao (n + l.length) cap) w' ∧ All (rowC 55 7 (.slice ao (n + l.length) cap) (n + l.length) ((us ++ l).flatMap Ent.cells) :: cs) w' := by
  subst hk
  obtain ⟨i1, z, hi1, hz0, hz1, hz2, hz3⟩ := info55p
  have := appN (c := c) und29 hi1 hz0 hz1 hz2 hz3 (by decide) A ao2 (news := l.flatMap Ent.cells) (m := l.length) (flat_len Ent.len l) (flat_src (by decide) Ent.len h2) (flat_one Ent.one l) (by unfold maxLen; omega) hb
  rw [List.flatMap_append]
  exact this
/-- Sheets behind a row of sheets. -/
theorem appSh {W : World} {v : Value} {n c k : Nat} {us l : List Sh} {ao2 : Option Addr} {cs : List Comp} (A : All (rowC 57 3 v n (us.flatMap Sh.cells) :: cs) W) (h2 : Shs W ao2 l) (hk : k = l.length) (hb : (n + l.length) * 40 ≤ 140737488355328) :
    ∃ ao cap w', (Builtin.append_ #[30, 30] 30 #[v, .slice ao2 k c]).run Tryz.prog W = .ok (.slice ao (n + l.length) cap) w' ∧ All (rowC 57 3 (.slice ao (n + l.length) cap) (n + l.length) ((us ++ l).flatMap Sh.cells) :: cs) w' := by
  subst hk
  obtain ⟨i1, z, hi1, hz0, hz1, hz2, hz3⟩ := info57p
  have := appN (c := c) und30 hi1 hz0 hz1 hz2 hz3 (by decide) A ao2 (news := l.flatMap Sh.cells) (m := l.length) (flat_len Sh.len l) (flat_src (by decide) Sh.len h2) (flat_one Sh.one l) (by unfold maxLen; omega) hb
  rw [List.flatMap_append]
  exact this
theorem ent_new (W : World) (x : Ent) : Ents (W.alloc (.cells x.cells.toArray 55)) (some ⟨W.heap.size, 0, none⟩) [x] := by
  intro i y hy
  match i with
  | 0 =>
    simp only [List.getElem?_cons_zero, Option.some.injEq] at hy
    subst hy
    refine ⟨_, 0, rfl, by simp, fun j u hu => ?_⟩
    rw [cell_at (heap_alloc_new W _)]
    simpa using hu
  | i + 1 => simp at hy
theorem sh_new (W : World) (x : Sh) : Shs (W.alloc (.cells x.cells.toArray 57)) (some ⟨W.heap.size, 0, none⟩) [x] := by
  intro i y hy
  match i with
  | 0 =>
    simp only [List.getElem?_cons_zero, Option.some.injEq] at hy
    subst hy
    refine ⟨_, 0, rfl, by simp, fun j u hu => ?_⟩
    rw [cell_at (heap_alloc_new W _)]
    simpa using hu
  | i + 1 => simp at hy
theorem tx_new (W : World) (x : ByteArray) : Txts (W.alloc (.cells #[.string x] 9)) (.slice (some ⟨W.heap.size, 0, none⟩) 1 1) [x] := by
  refine ⟨_, 1, rfl, Nat.le_refl _, Or.inr ⟨_, 0, rfl, by simp, fun j hj => ?_⟩⟩
  have : j = 0 := by simpa using hj
  subst this
  rw [cell_at (heap_alloc_new W _)]
  rfl
end Go.Proofs.YthoppemjfdnibaaGreatDoor
