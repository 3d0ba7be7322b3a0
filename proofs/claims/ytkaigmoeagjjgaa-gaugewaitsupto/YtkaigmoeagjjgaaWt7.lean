import Derived.Test.YtkaigmoeagjjgaaWt6
namespace Go.Proofs.Ytkaigmoeagjjgaa
open Go.RowKit
open Go.Maps (Keyed)
set_option linter.unusedVariables false

noncomputable def mapC (b n : Nat) (D : DataW Unit) : Comp := ⟨fun w => w.ownsMap Try.prog 78 rE b n D, [b]⟩
theorem mapC_good (b n : Nat) (D : DataW Unit) : (mapC b n D).Good := by
  rintro w w' ⟨es, clock, hb, r⟩ hl hk
  exact ⟨es, clock, (hk b (by simp [mapC])).trans hb, r⟩
theorem All.map_turn {b n n' : Nat} {D D' : DataW Unit} {cs : List Comp} {w w' : World} (h : All (mapC b n D :: cs) w) (hg : w.grownBy w' (some b)) (ho : w'.ownsMap Try.prog 78 rE b n' D') : All (mapC b n' D' :: cs) w' := by
  have h2 : b < w.heap.size := h.1.2.2 b (by simp [mapC])
  refine h.turn ((grown_fr hg).mono (fun k hk => by simp at hk; simp [mapC, hk])) (mapC_good _ _ _) ho (fun k hk => Or.inl (by simpa [mapC] using hk)) (fun k hk => ?_)
  have hk' : k = b := by simpa [mapC] using hk
  subst hk'
  exact Nat.lt_of_lt_of_le h2 hg.size
theorem All.addMap {cs : List Comp} {w : World} (h : All cs w) : All (mapC w.heap.size 0 (.map []) :: cs) (w.alloc (.map #[] 0)) := by
  have hb : Below w.heap.size w (w.alloc (.map #[] 0)) := (Below.refl _ _).alloc (Nat.le_refl _) _
  refine h.add (Fr.below hb) (mapC_good _ _ _) (World.ownsMap_made w Try.prog 78 rE) (fun k hk => ?_)
  have hk' : k = w.heap.size := by simpa [mapC] using hk
  subst hk'
  exact ⟨Nat.le_refl _, by simp⟩
theorem All.third {a b c : Comp} {cs : List Comp} {w : World} (h : All (a :: b :: c :: cs) w) : All (c :: a :: b :: cs) w :=
  h.perm ((List.Perm.swap c b cs).cons a |>.trans (List.Perm.swap c a (b :: cs)))
theorem All.third' {a b c : Comp} {cs : List Comp} {w : World} (h : All (c :: a :: b :: cs) w) : All (a :: b :: c :: cs) w :=
  h.perm ((List.Perm.swap a c (b :: cs)).trans ((List.Perm.swap b c cs).cons a))
noncomputable def watchL (K : Nat) (v : Value) (B n : Nat) (D : DataW Unit) (S : List Sp) (cs : List Comp) : List Comp := blkC K [v, .map (some B)] 60 :: rowC 91 3 v S.length (flatW S) :: mapC B n D :: cs

set_option maxRecDepth 100000 in
set_option maxHeartbeats 4000000 in
theorem begin_no {w : World} {K B n : Nat} {oo : Option Addr} {oc : Nat} {D : DataW Unit} {S : List Sp} {cs : List Comp} {a m s : Int} (hA : All (watchL K (.slice oo S.length oc) B n D S cs) w) (hs : Says D S) (ha : okI a) (hm : okI m) {i : Nat} (ho : opn S a m = some i) : Calls Try.prog 39 #[.pointer (some ⟨K, 0, none⟩), .agg #[.int .i64 a, .int .i64 m], .int .i64 s] w fun e w' => e = .returned (.tuple #[]) ∧ All (watchL K (.slice oo S.length oc) B n D S cs) w' := by
  have A1 := hid (hA.alloc (.cells #[.int .i64 a, .int .i64 m] 78))
  have hb : (w.alloc (.cells #[.int .i64 a, .int .i64 m] 78)).heap[K]? = some (.cells #[.slice oo S.length oc, .map (some B)] 60 (0, 0)) := A1.out.1.2.1
  have c1 : (w.alloc (.cells #[.int .i64 a, .int .i64 m] 78)).cell? ⟨K, 1, none⟩ = some (.map (some B)) := by rw [cell_at hb]; rfl
  have pb := World.alloc_heap_new w (.cells #[.int .i64 a, .int .i64 m] 78)
  have p0 : (w.alloc (.cells #[.int .i64 a, .int .i64 m] 78)).cell? ⟨w.heap.size, 0, none⟩ = some (.int .i64 a) := by rw [cell_at pb]; rfl
  have p1 : (w.alloc (.cells #[.int .i64 a, .int .i64 m] 78)).cell? ⟨w.heap.size, 1, none⟩ = some (.int .i64 m) := by rw [cell_at pb]; rfl
  have hl : (Instr.lookup 57 (.map (some B)) (.agg #[.int .i64 a, .int .i64 m]) true).run Try.prog (w.alloc (.cells #[.int .i64 a, .int .i64 m] 78)).drew = .ok (.tuple #[.int .i64 (atI D a m), .bool true]) (w.alloc (.cells #[.int .i64 a, .int .i64 m] 78)).drew := by
    have := look78 (w := (w.alloc (.cells #[.int .i64 a, .int .i64 m] 78)).drew) (show World.ownsMap _ Try.prog 78 rE B n D from A1.out.drew.third.1.2.1) ha hm
    rw [((hs.says a m ha hm).2 i ho).1] at this
    exact this
  have hK : K < (w.alloc (.cells #[.int .i64 a, .int .i64 m] 78)).heap.size := A1.out.1.2.2 K (by simp [blkC])
  clear hA hb pb hs ha hm ho
  go_enter Try.func39, Try.ntmps39
  go_upto_region 1 with fail
  generalize w.alloc (.cells #[.int .i64 a, .int .i64 m] 78) = w1 at A1 c1 p0 p1 hl hK ⊢
  generalize w.heap.size = P at p0 p1 ⊢
  go_region
  go_wp2
  go_end0
  exact ⟨rfl, A1.out.drew⟩

theorem Try.info91 : (Try.prog.info? 91).map (fun i => (i.zero, i.size, i.bytes)) = some (some (.agg #[.int .i64 0, .int .i64 0, .bool false]), 3, 24) := by kernel_rfl
theorem Sp.onew (x : Sp) : ∀ u ∈ x.wc, u.oneCell' = true := by
  intro u hu
  simp only [Sp.wc, List.mem_cons, List.not_mem_nil, or_false] at hu
  rcases hu with rfl | rfl | rfl <;> rfl
theorem wpList_appW {w : World} {ops : Array Oper} {rest : List Oper} {o : Oper} {a : Act} {Q : Exit → Act → World → Prop} (hgd : o.guard = none) {s y : Operand}
    (ho : o.op = .call { callee := .builtin .append, args := #[s, y], argTypes := #[58, 58] })
    {v : Value} {l : List Sp} {x : Sp} {K : Nat} {cs : List Comp} (hA : All (rowC 91 3 v l.length (flatW l) :: cs) w) (hs : a.eval s = v) (hx : a.eval y = .slice (some ⟨K, 0, none⟩) 1 1) (hK : w.heap[K]? = some (.cells x.wc.toArray 91 (0, 0))) (hb : (l.length + 1) * 24 ≤ 140737488355328)
    (h : ∀ oo oc w', All (rowC 91 3 (.slice oo (l.length + 1) oc) (l.length + 1) (flatW (l ++ [x])) :: cs) w' → wpList Try.prog ops Q rest (a.put o.dst (.slice oo (l.length + 1) oc)) w') : wpList Try.prog ops Q (o :: rest) a w := by
  obtain ⟨i0, hi, hz0, hz1, hz2⟩ := info_parts Try.info91
  refine wpList_append_own_at w hgd s y 58 ho 0 91 i0 _ 3 24 Try.underlying58 hi hz0 hz1 hz2 rfl (by decide) v l.length (flatW l) hs hA.1.2.1 ⟨K, 0, none⟩ 1 1 x.wc hx (by simp [Sp.wc]) (fun j u hu => by rw [Addr.add_lit, Nat.zero_add, cell_at hK]; exact (List.getElem?_toArray ..).trans hu) x.onew (by unfold maxLen; omega) hb (Nat.zero_le _) fun v' w' h1 h2 _ h3 => ?_
  obtain ⟨oo, oc, rfl⟩ := owns_form h1
  exact h oo oc w' (hA.rowGrow (by rw [flatW_snoc]; exact h1) h2 h3)

set_option maxRecDepth 100000 in
set_option maxHeartbeats 4000000 in
theorem begin_yes {w : World} {K B n : Nat} {oo : Option Addr} {oc : Nat} {D : DataW Unit} {S : List Sp} {cs : List Comp} {a m s : Int} (hA : All (watchL K (.slice oo S.length oc) B n D S cs) w) (hs : Says D S) (ha : okI a) (hm : okI m) (ho : opn S a m = none) (hn : n ≤ 1048577) (hS : S.length ≤ 1048577) : Calls Try.prog 39 #[.pointer (some ⟨K, 0, none⟩), .agg #[.int .i64 a, .int .i64 m], .int .i64 s] w fun e w' => e = .returned (.tuple #[]) ∧ ∃ o2 c2 D2, Says D2 (S ++ [⟨a, m, s, 0, false⟩]) ∧ All (watchL K (.slice o2 (S.length + 1) c2) B (n + 1) D2 (S ++ [⟨a, m, s, 0, false⟩]) cs) w' := by
  have A1 := hid (hA.alloc (.cells #[.int .i64 a, .int .i64 m] 78))
  have hb : (w.alloc (.cells #[.int .i64 a, .int .i64 m] 78)).heap[K]? = some (.cells #[.slice oo S.length oc, .map (some B)] 60 (0, 0)) := A1.out.1.2.1
  have c1 : (w.alloc (.cells #[.int .i64 a, .int .i64 m] 78)).cell? ⟨K, 1, none⟩ = some (.map (some B)) := by rw [cell_at hb]; rfl
  have c0 : (w.alloc (.cells #[.int .i64 a, .int .i64 m] 78)).cell? ⟨K, 0, none⟩ = some (.slice oo S.length oc) := by rw [cell_at hb]; rfl
  have pb := World.alloc_heap_new w (.cells #[.int .i64 a, .int .i64 m] 78)
  have p0 : (w.alloc (.cells #[.int .i64 a, .int .i64 m] 78)).cell? ⟨w.heap.size, 0, none⟩ = some (.int .i64 a) := by rw [cell_at pb]; rfl
  have p1 : (w.alloc (.cells #[.int .i64 a, .int .i64 m] 78)).cell? ⟨w.heap.size, 1, none⟩ = some (.int .i64 m) := by rw [cell_at pb]; rfl
  have hl : (Instr.lookup 57 (.map (some B)) (.agg #[.int .i64 a, .int .i64 m]) true).run Try.prog (w.alloc (.cells #[.int .i64 a, .int .i64 m] 78)).drew = .ok (.tuple #[.int .i64 (atI D a m), .bool false]) (w.alloc (.cells #[.int .i64 a, .int .i64 m] 78)).drew := by
    have := look78 (w := (w.alloc (.cells #[.int .i64 a, .int .i64 m] 78)).drew) (show World.ownsMap _ Try.prog 78 rE B n D from A1.out.drew.third.1.2.1) ha hm
    rw [(hs.says a m ha hm).1 ho] at this
    exact this
  have hK : K < (w.alloc (.cells #[.int .i64 a, .int .i64 m] 78)).heap.size := A1.out.1.2.2 K (by simp [blkC])
  have SD := hid (hs.begin (s := s) ha hm ho)
  have KK := hid (key78 ha hm)
  have hSL : okI (S.length : Int) := by
    have e1 : IntKind.i64.min = -9223372036854775808 := by decide
    have e2 : IntKind.i64.max = 9223372036854775807 := by decide
    unfold okI
    simp [Lit.wf, e1, e2]
    omega
  have RV := hid (plainElem_int (H := Unit) Try.underlying3 hSL)
  clear hA hb pb hs ha hm ho hSL
  go_enter Try.func39, Try.ntmps39
  go_upto_region 1 with fail
  generalize w.alloc (.cells #[.int .i64 a, .int .i64 m] 78) = w1 at A1 c1 c0 p0 p1 hl hK ⊢
  generalize w.heap.size = P at p0 p1 ⊢
  go_region
  clear hl
  go_upto_region 3 with fail
  have A2 := hid A1.out.drew
  replace c0 : w1.drew.cell? ⟨K, 0, none⟩ = some (.slice oo S.length oc) := c0
  replace c1 : w1.drew.cell? ⟨K, 1, none⟩ = some (.map (some B)) := c1
  replace p0 : w1.drew.cell? ⟨P, 0, none⟩ = some (.int .i64 a) := p0
  replace p1 : w1.drew.cell? ⟨P, 1, none⟩ = some (.int .i64 m) := p1
  replace hK : K < w1.drew.heap.size := hK
  clear A1
  generalize w1.drew = w2 at A2 c1 c0 p0 p1 hK ⊢
  obtain ⟨w3, hrun, ho3, hg3⟩ := World.ownsMap.update (t := 57) (e := 3) (show w2.drew.ownsMap Try.prog 78 rE B n D from A2.out.drew.third.1.2.1) law78 Try.und57 (by unfold maxLen; omega) KK.out RV.out
  have A3 := hid ((A2.out.drew.third.map_turn hg3 ho3).third')
  clear ho3 hg3 A2 KK RV
  go_region
  have hb3 : w3.heap[K]? = some (.cells #[.slice oo S.length oc, .map (some B)] 60 (0, 0)) := A3.out.1.2.1
  replace c0 : w3.cell? ⟨K, 0, none⟩ = some (.slice oo S.length oc) := by rw [cell_at hb3]; rfl
  have A4 := hid (A3.out.swap.alloc (.cells (Sp.wc ⟨a, m, s, 0, false⟩).toArray 91))
  have hb8 : (S.length + 1) * 24 ≤ 140737488355328 := by omega
  have hKK := World.alloc_heap_new w3 (.cells (Sp.wc ⟨a, m, s, 0, false⟩).toArray 91)
  clear c1 p0 p1 hK hrun A3 hb3
  go_wp2_with (at_builtin; refine wpList_appW rfl rfl A4.out rfl rfl hKK hb8 ?_; intro o2 c2 w5 hA5; have A5 := hid hA5.swap; have hb5 : w5.heap[K]? = some (.cells #[.slice oo S.length oc, .map (some B)] 60 (0, 0)) := hA5.swap.1.2.1; have d0 : w5.cell? ⟨K, 0, none⟩ = some (.slice oo S.length oc) := (by rw [cell_at hb5]; rfl); have df := free_at hb5 0; clear hA5 hKK hb5)
  have A6 := hid (A5.out.setBlk 0 (.slice o2 (S.length + 1) c2))
  clear A4 A5 c0
  go_wp2
  go_end0
  exact ⟨rfl, o2, c2, _, SD.out, by unfold watchL; rw [List.length_append]; exact A6.out⟩
end Go.Proofs.Ytkaigmoeagjjgaa
