import Derived.Test.YthjoppgomopkfaaDesk
import Derived.Test.YthjoppgomopkfaaReset
import Derived.Test.YthjoppgomopkfaaRefR
import Derived.Test.YthjoppgomopkfaaSame
namespace Go.Proofs.Ythjoppgomopkfaa
open Go.RowKit
set_option linter.unusedVariables false

/-- Reset, of the program and of the document. -/
theorem reset_two {n g h b : Nat} {p : Nat} {L ps : List Ent} (k : LogOk b n L ps) (op : Int) (hop : i64In op) {l : List Ent} (hl : l.length * 72 ≤ 140737488351232) : ∃ (q : Int) (b' : Nat) (L' : List Ent),
    (∀ (s : Value) (W : World) (Z : List Comp), All (logP g h b (b + L.length) n ps ++ Z) W → (∀ W, All Z W → EntsW W s l) → Calls Try.prog 23 #[.pointer (some ⟨g, 0, none⟩), .int .i64 op, s] W fun e w' => e = .returned (.int .i64 q) ∧ ∃ h' ps', LogOk b' n L' ps' ∧ All (logP g h' b' (b' + L'.length) n ps' ++ Z) w') ∧
    (∀ (s v : Value) (W : World) (Z : List Comp), All (refP p n b v L ++ Z) W → EntsW W s l → Calls Try.prog 24 #[.pointer (some ⟨p, 0, none⟩), .int .i64 op, s] W fun e w' => e = .returned (.int .i64 q) ∧ ∃ v', All (refP p n b' v' L' ++ Z) w') := by
  by_cases hq : resetE n op l.length = 0
  · have h0 : 0 ≤ op ∧ op + l.length ≤ 1099511627776 ∧ l.length ≤ n := by
      unfold resetE at hq
      split at hq
      · simp at hq
      · split at hq
        · simp at hq
        · omega
    obtain ⟨o, rfl⟩ : ∃ o : Nat, op = (o : Int) := ⟨op.toNat, by omega⟩
    refine ⟨0, o, l, fun s W Z A hS => ?_, fun s v W Z A hS => ?_⟩
    · exact Reset_ok A k o hS (by omega) (by omega)
    · exact rReset_ok A k.le o hS (by omega) (by omega)
  · refine ⟨resetE n op l.length, b, L, fun s W Z A hS => ?_, fun s v W Z A hS => ?_⟩
    · obtain ⟨ao, c, rfl, _⟩ := hS W A.tail.tail
      refine (Reset_no A k op hop (by omega) hq).mono ?_
      rintro e w' ⟨rfl, A'⟩
      exact ⟨rfl, h, ps, k, A'⟩
    · obtain ⟨ao, c, rfl, _⟩ := hS
      refine (rReset_no A.ref k.le op hop (by omega) hq).mono ?_
      rintro e w' ⟨rfl, hb⟩
      exact ⟨rfl, v, A.later hb⟩

set_option maxHeartbeats 1600000 in
set_option maxRecDepth 1000000 in
theorem dreset_any {n D k i : Nat} {va vb vm : Value} {T : List Tw} {M : List Mk} {cs : List Comp} {w : World} {x : Act0} (hA : All (deskL n D va vb vm T M ++ cs) w) (hF : DF n T M i) (hk : k < T.length) (hx : ∀ W, All cs W → x.good W) (hi : i ≤ 1099511627776) : Calls Try.prog 35 #[.pointer (some ⟨D, 0, none⟩), .int .i64 (k : Int), .int .i64 (i : Int), x.V] w fun e w' => e = .returned (.bool true) ∧ DeskI n D T.length (i + 1) cs w' := by
  obtain ⟨t, hT⟩ : ∃ t, Hid (T[k]? = some t) := ⟨_, hid (List.getElem?_eq_getElem hk)⟩
  have hok := hid (hF.ok t (List.mem_of_getElem? hT.out))
  obtain ⟨kd, lg, op, ms, ⟨ec, en, ek, enm, etx, em, eq⟩, s, l⟩ := x
  have hg0 := hx w (hA.sublist (List.sublist_append_right _ _))
  obtain ⟨sa, sc, es, _⟩ := hg0.rd
  have hop := hg0.op
  have hfew := hg0.few
  simp only at es hop hfew
  subst es
  clear hg0
  obtain ⟨K, hK⟩ : ∃ K, Hid (K = w.heap.size) := ⟨_, hid rfl⟩
  have A1 : Hid (All (deskL n D va vb vm T M ++ (blkC K [.int .i64 kd, .int .i64 lg, .int .i64 op, .int .i64 ms, .int .i64 ec, .int .i64 en, .int .i64 ek, .string enm, .string etx, .int .i64 em, .int .i64 eq, .slice sa l.length sc] 42 :: cs)) (w.alloc (.cells #[.int .i64 kd, .int .i64 lg, .int .i64 op, .int .i64 ms, .int .i64 ec, .int .i64 en, .int .i64 ek, .string enm, .string etx, .int .i64 em, .int .i64 eq, .slice sa l.length sc] 42))) := hid (by
    have h1 := hA.addBlk [.int .i64 kd, .int .i64 lg, .int .i64 op, .int .i64 ms, .int .i64 ec, .int .i64 en, .int .i64 ek, .string enm, .string etx, .int .i64 em, .int .i64 eq, .slice sa l.length sc] 42
    rw [← hK.out] at h1
    exact h1.perm List.perm_middle.symm)
  have HX : Hid (∀ W, All cs W → EntsW W (.slice sa l.length sc) l) := hid (fun W hW => (hx W hW).rd)
  have HF := hid hF
  obtain ⟨vl, w2, hr2, hb2, ho2⟩ := app_all (HX.out _ (A1.out.sublist ((List.sublist_cons_self _ _).trans (List.sublist_append_right _ _)))) (by omega)
  have A2 : Hid (All (deskL n D va vb vm T M ++ (entC vl l :: blkC K [.int .i64 kd, .int .i64 lg, .int .i64 op, .int .i64 ms, .int .i64 ec, .int .i64 en, .int .i64 ek, .string enm, .string etx, .int .i64 em, .int .i64 eq, .slice sa l.length sc] 42 :: cs)) w2) := hid ((A1.out.addRow hb2 ho2).perm List.perm_middle.symm)
  have HR2 := hid hr2
  have z11 : (w.alloc (.cells #[.int .i64 kd, .int .i64 lg, .int .i64 op, .int .i64 ms, .int .i64 ec, .int .i64 en, .int .i64 ek, .string enm, .string etx, .int .i64 em, .int .i64 eq, .slice sa l.length sc] 42)).cell? ⟨w.heap.size, 11, none⟩ = some (.slice sa l.length sc) := by rw [cell_at (heap_alloc_new w _)]; rfl
  have hN4 := hF.four
  obtain ⟨q, b', L', D23, D24⟩ := reset_two (g := t.g) (h := t.h) (p := t.p) hok.out op hop hfew
  have HN : Hid (k < T.length) := hid hk
  obtain ⟨av, cv, rfl, _⟩ := owns7_form (A2.out.mem (c := entC vl l) (by simp)).2.1
  clear hA hx hF hr2 hb2 ho2 A1 hop
  go_enter Try.func35, Try.ntmps35
  go_upto_region 2 with (at_builtin; refine wpList_append_run rfl _ (.tmp 12) 40 rfl _ _ _ _ rfl rfl HR2.out ?_)
  rw [← hK.out]
  clear hK z11 HR2
  obtain ⟨ra, ca, rb, cb, rfl, rfl, RD⟩ := desk_reads hT.out A2.out
  obtain ⟨c0, c1, pa, pb⟩ := RD
  have A4 := hid (desk_out hT.out A2.out)
  have j1 : (k : Int) < (T.length : Int) := by omega
  have ZZ : Hid (∀ (Y : List Comp) W, All (Y ++ (hdL D (.slice (some ⟨ra, 0, none⟩) T.length ca) (.slice (some ⟨rb, 0, none⟩) T.length cb) vm (pA T) (pB T) M ++ (OT n T k ++ (entC (.slice av l.length cv) l :: blkC K [.int .i64 kd, .int .i64 lg, .int .i64 op, .int .i64 ms, .int .i64 ec, .int .i64 en, .int .i64 ek, .string enm, .string etx, .int .i64 em, .int .i64 eq, .slice sa l.length sc] 42 :: cs)))) W → W.cell? ⟨D, 0, none⟩ = some (.slice (some ⟨ra, 0, none⟩) T.length ca) ∧ W.cell? ⟨D, 1, none⟩ = some (.slice (some ⟨rb, 0, none⟩) T.length cb) ∧ W.cell? ⟨ra, k, none⟩ = some (.pointer (some ⟨t.g, 0, none⟩)) ∧ W.cell? ⟨rb, k, none⟩ = some (.pointer (some ⟨t.p, 0, none⟩)) ∧ W.cell? ⟨K, 2, none⟩ = some (.int .i64 op) ∧ W.cell? ⟨K, 11, none⟩ = some (.slice sa l.length sc)) := hid (fun Y W hW => by
    have eK : W.heap[K]? = some (.cells [.int .i64 kd, .int .i64 lg, .int .i64 op, .int .i64 ms, .int .i64 ec, .int .i64 en, .int .i64 ek, .string enm, .string etx, .int .i64 em, .int .i64 eq, .slice sa l.length sc].toArray 42 (0, 0)) := hW.blk (by simp)
    have hD : W.heap[D]? = some (.cells [.slice (some ⟨ra, 0, none⟩) T.length ca, .slice (some ⟨rb, 0, none⟩) T.length cb, vm].toArray 35 (0, 0)) := hW.blk (by simp [hdL])
    have hRA : W.ownsRow 0 23 1 (.slice (some ⟨ra, 0, none⟩) T.length ca) (pA T).length (pA T) := (hW.mem (c := ownC 23 _ (pA T)) (by simp [hdL])).2.1
    have hRB : W.ownsRow 0 27 1 (.slice (some ⟨rb, 0, none⟩) T.length cb) (pB T).length (pB T) := (hW.mem (c := ownC 27 _ (pB T)) (by simp [hdL])).2.1
    obtain ⟨ra', e1, pa, _⟩ := owns_at hRA (k := k) (u := .pointer (some ⟨t.g, 0, none⟩)) (by simp [pA, hT.out])
    obtain ⟨rb', e2, pb, _⟩ := owns_at hRB (k := k) (u := .pointer (some ⟨t.p, 0, none⟩)) (by simp [pB, hT.out])
    cases e1
    cases e2
    refine ⟨?_, ?_, pa, pb, ?_, ?_⟩
    · rw [cell_at hD]; rfl
    · rw [cell_at hD]; rfl
    · rw [cell_at eK]; rfl
    · rw [cell_at eK]; rfl)
  obtain ⟨_, _, _, _, y2, y11⟩ := ZZ.out (logP t.g t.h t.b (t.b + t.L.length) n t.ps ++ refP t.p n t.b t.v t.L) _ (by simpa [List.append_assoc] using A4.out)
  have C23 := hid (D23 (.slice av l.length cv) _ _ A4.out.drew (fun W hW => EntsW.of_owns (hW.mem (c := entC (.slice av l.length cv) l) (by simp)).2.1))
  have C24 := hid (fun W Z (A : All (refP t.p n t.b t.v t.L ++ Z) W) (hc : All cs W) => D24 (.slice sa l.length sc) t.v W Z A (HX.out W hc))
  clear A2 D23 D24
  go_region_held3 (fun W => W.cell? ⟨D, 0, none⟩ = some (.slice (some ⟨ra, 0, none⟩) T.length ca) ∧ W.cell? ⟨D, 1, none⟩ = some (.slice (some ⟨rb, 0, none⟩) T.length cb) ∧ W.cell? ⟨ra, k, none⟩ = some (.pointer (some ⟨t.g, 0, none⟩)) ∧ W.cell? ⟨rb, k, none⟩ = some (.pointer (some ⟨t.p, 0, none⟩)) ∧ W.cell? ⟨K, 2, none⟩ = some (.int .i64 op) ∧ W.cell? ⟨K, 11, none⟩ = some (.slice sa l.length sc)) (go_keep)
    (first
      | (go_at_call 23; refine C23.out.mono ?_; rintro e w5 ⟨rfl, h', ps', hk', A5⟩; have A5 := hid A5; obtain ⟨s1, s2, s3, s4, s5, s6⟩ := ZZ.out (logP t.g h' b' (b' + L'.length) n ps' ++ refP t.p n t.b t.v t.L) _ (by simpa [List.append_assoc] using A5.out))
      | (go_at_call 24; refine (C24.out _ _ A5.out.flip (A5.out.sublist (by simp only [← List.append_assoc]; exact ((List.sublist_cons_self _ _).trans (List.sublist_cons_self _ _)).trans (List.sublist_append_right _ _)))).mono ?_; rintro e w6 ⟨rfl, v', A6⟩; have A6 := hid A6; obtain ⟨s1, s2, s3, s4, s5, s6⟩ := ZZ.out (refP t.p n b' v' L' ++ logP t.g h' b' (b' + L'.length) n ps') _ (by simpa [List.append_assoc] using A6.out)))
  have C29 := hid (same_eq (EntsW.of_owns (A6.out.mem (c := entC (.slice av l.length cv) l) (by simp)).2.1) (HX.out _ (A6.out.sublist (by simp only [← List.append_assoc]; exact ((List.sublist_cons_self _ _).trans (List.sublist_cons_self _ _)).trans (List.sublist_append_right _ _)))) (by omega))
  clear C23 C24 A4 A5 c0 c1 pa pb y2 y11 s1 s2 s3 s4 s5
  go_wp2_with fail
  refine C29.out.mono ?_
  rintro e w7 ⟨rfl, q7, hw7⟩
  have A7 : Hid (All (entC (.slice av l.length cv) l :: (deskL n D (.slice (some ⟨ra, 0, none⟩) T.length ca) (.slice (some ⟨rb, 0, none⟩) T.length cb) vm (T.set k { t with h := h', b := b', L := L', ps := ps', v := v' }) M ++ (blkC K [.int .i64 kd, .int .i64 lg, .int .i64 op, .int .i64 ms, .int .i64 ec, .int .i64 en, .int .i64 ek, .string enm, .string etx, .int .i64 em, .int .i64 eq, .slice sa l.length sc] 42 :: cs))) w7) := hid (by
    rw [hw7]
    exact (desk_in (t' := { t with h := h', b := b', L := L', ps := ps', v := v' }) hT.out rfl rfl (A6.out.flip.drewN q7)).perm List.perm_middle)
  have C31 := hid (hold_any A7.out i hi (by omega))
  clear C29 A6 s6 hw7
  go_wp2_with fail
  refine C31.out.mono ?_
  rintro e w8 ⟨ao, c, rfl, A8⟩
  have A8 := hid A8
  clear C31 A7
  go_wp2
  go_ret
  exact ⟨rfl, _, _, _, T.set k { t with h := h', b := b', L := L', ps := ps', v := v' }, M, by rw [List.length_set]; exact Nat.le_refl _, HF.out.set hk', A8.out.tail.mid⟩
end Go.Proofs.Ythjoppgomopkfaa
