import Derived.Test.YthjoppgomopkfaaDesk
import Derived.Test.YthjoppgomopkfaaFrom
import Derived.Test.YthjoppgomopkfaaRFrom
import Derived.Test.YthjoppgomopkfaaSame
import Derived.Test.YthjoppgomopkfaaMarks
namespace Go.Proofs.Ythjoppgomopkfaa
open Go.RowKit
set_option linter.unusedVariables false

theorem fromL_le (b : Nat) (l : List Ent) (k ms : Int) : (fromL b l k ms).length ≤ l.length := by
  unfold fromL
  split
  · rw [List.length_take, List.length_drop]; omega
  · simp
theorem All.parts1 {a : Comp} {X Y Z : List Comp} {w : World} (h : All (a :: (X ++ (Y ++ Z))) w) : All (Y ++ (a :: (X ++ Z))) w := by
  refine h.perm ?_
  have := perm_by 4 [[a], X, Y, Z] [2, 0, 1, 3] rfl (by decide)
  simpa [List.getD] using this
theorem All.parts2 {a b : Comp} {X Y Z : List Comp} {w : World} (h : All (b :: (Y ++ (a :: (X ++ Z)))) w) : All (a :: (X ++ (Y ++ Z))) w := by
  refine h.tail.perm ?_
  have := perm_by 4 [Y, [a], X, Z] [1, 2, 0, 3] rfl (by decide)
  simpa [List.getD] using this
set_option maxHeartbeats 1600000 in
set_option maxRecDepth 1000000 in
theorem act_2 {n D k i : Nat} {va vb vm : Value} {T : List Tw} {M : List Mk} {cs : List Comp} {w : World} {x : Act0} (hA : All (deskL n D va vb vm T M ++ cs) w) (hF : DF n T M i) (hk : k < T.length) (hx : ∀ W, All cs W → x.good W) (hi : i ≤ 1099511627776) (hm : amN x.kd 8 = 2) : Calls Try.prog 9 #[.pointer (some ⟨D, 0, none⟩), .int .i64 (k : Int), .int .i64 (i : Int), x.V] w fun e w' => e = .returned (.bool true) ∧ DeskI n D T.length (i + 1) cs w' := by
  obtain ⟨t, hT⟩ : ∃ t, Hid (T[k]? = some t) := ⟨_, hid (List.getElem?_eq_getElem hk)⟩
  have hok := hid (hF.ok t (List.mem_of_getElem? hT.out))
  obtain ⟨kd, lg, op, ms, ⟨ec, en, ek, enm, etx, em, eq⟩, s, l⟩ := x
  obtain ⟨sa, sc, es, _⟩ := (hx w (hA.sublist (List.sublist_append_right _ _))).rd
  simp only at es hm
  subst es
  obtain ⟨K, hK⟩ : ∃ K, Hid (K = w.heap.size) := ⟨_, hid rfl⟩
  have A1 : Hid (All (deskL n D va vb vm T M ++ (blkC K [.int .i64 kd, .int .i64 lg, .int .i64 op, .int .i64 ms, .int .i64 ec, .int .i64 en, .int .i64 ek, .string enm, .string etx, .int .i64 em, .int .i64 eq, .slice sa l.length sc] 42 :: cs)) (w.alloc (.cells #[.int .i64 kd, .int .i64 lg, .int .i64 op, .int .i64 ms, .int .i64 ec, .int .i64 en, .int .i64 ek, .string enm, .string etx, .int .i64 em, .int .i64 eq, .slice sa l.length sc] 42))) := hid (by
    have h1 := hA.addBlk [.int .i64 kd, .int .i64 lg, .int .i64 op, .int .i64 ms, .int .i64 ec, .int .i64 en, .int .i64 ek, .string enm, .string etx, .int .i64 em, .int .i64 eq, .slice sa l.length sc] 42
    rw [← hK.out] at h1
    exact h1.perm List.perm_middle.symm)
  obtain ⟨ra, ca, rb, cb, rfl, rfl, RD⟩ := desk_reads hT.out A1.out
  obtain ⟨c0, c1, pa, pb⟩ := RD
  have HAM : Hid (∀ W : World, Calls Try.prog 8 #[.int .i64 kd, .int .i64 8] W fun e w' => e = .returned (.int .i64 2) ∧ Below W.heap.size W w') := hid (fun W => by
    refine (among_is kd 8 (by decide) (by decide)).mono ?_
    rintro e w' ⟨rfl, rfl⟩
    rw [hm]
    exact ⟨rfl, Below.refl _ _⟩)
  have HX := hid hx
  have HF := hid hF
  have z0 : (w.alloc (.cells #[.int .i64 kd, .int .i64 lg, .int .i64 op, .int .i64 ms, .int .i64 ec, .int .i64 en, .int .i64 ek, .string enm, .string etx, .int .i64 em, .int .i64 eq, .slice sa l.length sc] 42)).cell? ⟨w.heap.size, 0, none⟩ = some (.int .i64 kd) := by rw [cell_at (heap_alloc_new w _)]; rfl
  have j1 : (k : Int) < (T.length : Int) := by omega
  have hN4 := hF.four
  generalize hN : T.length = N at *
  have HN := hid hN
  clear hA hx hF hm hN
  go_enter Try.func9, Try.ntmps9
  go_upto_region 1 with fail
  rw [← hK.out] at z0 ⊢
  clear hK
  generalize (w.alloc (.cells #[.int .i64 kd, .int .i64 lg, .int .i64 op, .int .i64 ms, .int .i64 ec, .int .i64 en, .int .i64 ek, .string enm, .string etx, .int .i64 em, .int .i64 eq, .slice sa l.length sc] 42)) = w1 at *
  go_quiet (fail)
  go_wp2_with fail
  refine (HAM.out _).mono ?_
  rintro e w3 ⟨rfl, hb⟩
  have A3 := hid ((A1.out.drewN _).later hb)
  clear HAM A1 hb c0 c1 pa pb z0
  have ZZ : Hid (∀ (Y : List Comp) W, All (Y ++ (blkC K [.int .i64 kd, .int .i64 lg, .int .i64 op, .int .i64 ms, .int .i64 ec, .int .i64 en, .int .i64 ek, .string enm, .string etx, .int .i64 em, .int .i64 eq, .slice sa l.length sc] 42 :: cs)) W → W.cell? ⟨K, 0, none⟩ = some (.int .i64 kd) ∧ W.cell? ⟨K, 1, none⟩ = some (.int .i64 lg) ∧ W.cell? ⟨K, 2, none⟩ = some (.int .i64 op) ∧ W.cell? ⟨K, 3, none⟩ = some (.int .i64 ms) ∧ W.cell? ⟨K, 4, none⟩ = some (.int .i64 ec) ∧ W.cell? ⟨K, 5, none⟩ = some (.int .i64 en) ∧ W.cell? ⟨K, 6, none⟩ = some (.int .i64 ek) ∧ W.cell? ⟨K, 7, none⟩ = some (.string enm) ∧ W.cell? ⟨K, 8, none⟩ = some (.string etx) ∧ W.cell? ⟨K, 9, none⟩ = some (.int .i64 em) ∧ W.cell? ⟨K, 10, none⟩ = some (.int .i64 eq) ∧ W.cell? ⟨K, 11, none⟩ = some (.slice sa l.length sc)) := hid (fun Y W hW => by
    have e : W.heap[K]? = some (.cells [.int .i64 kd, .int .i64 lg, .int .i64 op, .int .i64 ms, .int .i64 ec, .int .i64 en, .int .i64 ek, .string enm, .string etx, .int .i64 em, .int .i64 eq, .slice sa l.length sc].toArray 42 (0, 0)) := hW.blk (by simp)
    refine ⟨?_, ?_, ?_, ?_, ?_, ?_, ?_, ?_, ?_, ?_, ?_, ?_⟩ <;> (rw [cell_at e]; rfl))
  obtain ⟨z0, z1, z2, z3, z4, z5, z6, z7, z8, z9, z10, z11⟩ := ZZ.out _ _ A3.out
  have A4 := hid (desk_out hT.out A3.out)
  have hms := (HX.out _ (A3.out.sublist ((List.sublist_cons_self _ _).trans (List.sublist_append_right _ _)))).ms
  have hle : t.L.length ≤ 64 := Nat.le_trans hok.out.few hok.out.le
  have hfl := fromL_le t.b t.L op ms
  have C28 := hid (From_any A4.out.head A4.out.tail.1.2.1 hok.out op ms hms.2)
  have C30 := hid (fun W Z (A : All (refP t.p n t.b t.v t.L ++ Z) W) => rFrom_any (w := W) (cs := Z) A hok.out.top hle op ms)
  generalize hq : fromL t.b t.L op ms = out at *
  clear A3 z0 z1 z4 z5 z6 z7 z8 z9 z10 z11 hq hms
  go_wp2_with fail
  refine C28.out.mono ?_
  rintro e w5 ⟨v1, rfl, hb5, hn5⟩
  have A5 := hid (A4.out.newEnts hb5 hn5 (by unfold maxLen; omega))
  clear C28 A4 hb5 hn5 z2 z3
  obtain ⟨_, _, z2, z3, _⟩ := ZZ.out (entC v1 out :: (logP t.g t.h t.b (t.b + t.L.length) n t.ps ++ (refP t.p n t.b t.v t.L ++ (hdL D _ _ vm (pA T) (pB T) M ++ OT n T k)))) _ (by simpa [List.append_assoc] using A5.out)
  obtain ⟨a1, k1, rfl, _⟩ := owns7_form A5.out.1.2.1
  have C30' := hid (C30.out _ _ A5.out.parts1)
  clear C30
  go_wp2_with fail
  refine C30'.out.mono ?_
  rintro e w6 ⟨v2, rfl, A6⟩
  have A6 := hid A6
  have E1 := EntsW.of_owns A6.out.1.2.1
  have E2 := EntsW.of_owns A6.out.parts2.1.2.1
  have C29 := hid (same_eq E2 E1 (by omega))
  obtain ⟨a2, k2, rfl, _⟩ := owns7_form A6.out.1.2.1
  clear C30' A5 z2 z3 E1 E2
  go_wp2_with fail
  refine C29.out.mono ?_
  rintro e w7 ⟨rfl, q7, hw7⟩
  have A7 : Hid (All (entC (.slice a1 out.length k1) out :: (logP t.g t.h t.b (t.b + t.L.length) n t.ps ++ (refP t.p n t.b t.v t.L ++ (hdL D (.slice (some ⟨ra, 0, none⟩) N ca) (.slice (some ⟨rb, 0, none⟩) N cb) vm (pA T) (pB T) M ++ (OT n T k ++ (blkC K [.int .i64 kd, .int .i64 lg, .int .i64 op, .int .i64 ms, .int .i64 ec, .int .i64 en, .int .i64 ek, .string enm, .string etx, .int .i64 em, .int .i64 eq, .slice sa l.length sc] 42 :: cs)))))) w7) := hid (by rw [hw7]; exact A6.out.parts2.drewN q7)
  have hMl : (M.length + 1) * 96 ≤ 140737488355328 := by have := HF.out.few; omega
  obtain ⟨am, cm, hvm⟩ : ∃ am cm, vm = .slice am M.length cm := by
    obtain ⟨am, cm, h⟩ := owns_form (show w7.ownsRow 0 69 8 vm M.length (flatM M) from (A7.out.mem (c := markC vm M) (by simp [hdL])).2.1)
    exact ⟨am, cm, h⟩
  subst hvm
  have d2 : w7.cell? ⟨D, 2, none⟩ = some (.slice am M.length cm) := by
    have hD : w7.heap[D]? = some (.cells [.slice (some ⟨ra, 0, none⟩) N ca, .slice (some ⟨rb, 0, none⟩) N cb, .slice am M.length cm].toArray 35 (0, 0)) := A7.out.blk (by simp [hdL])
    rw [cell_at hD]; rfl
  have C31 : Hid (Calls Try.prog 31 #[.slice a1 out.length k1, .int .i64 (i : Int)] w7.drew fun e w' => ∃ ao c, e = .returned (.agg #[.slice ao (out.length + 5) c, .int .i64 (-7), .int .i64 (-1 - (i : Int)), .int .i64 0, .string ⟨#[]⟩, .string ⟨#[]⟩, .int .i64 0, .int .i64 0]) ∧ w'.cell? ⟨D, 2, none⟩ = some (.slice am M.length cm) ∧ D < w'.heap.size ∧ (∃ ao2 c2 w3, (Builtin.append_ #[33, 33] 33 #[.slice am M.length cm, .slice (some ⟨w'.heap.size, 0, none⟩) 1 1]).run Try.prog (w'.alloc (.cells #[.slice ao (out.length + 5) c, .int .i64 (-7), .int .i64 (-1 - (i : Int)), .int .i64 0, .string ⟨#[]⟩, .string ⟨#[]⟩, .int .i64 0, .int .i64 0] 69)) = .ok (.slice ao2 (M.length + 1) c2) w3 ∧ w3.cell? ⟨D, 2, none⟩ = some (.slice am M.length cm) ∧ w3.frozen? ⟨D, 2, none⟩ = false ∧ Hid (DeskI n D T.length (i + 1) cs (w3.setCell ⟨D, 2, none⟩ (.slice ao2 (M.length + 1) c2))))) := hid (by
    refine (hold_any A7.out.drew i hi (by omega)).mono ?_
    rintro e w' ⟨ao, c, rfl, A8⟩
    obtain ⟨m1, m2, m3, ao2, c2, w9, m4, m5, m6, m7⟩ := mark_add (X := ⟨ao, out.length + 5, c, i⟩) A8 hMl
    refine ⟨ao, c, rfl, m1, m3, ao2, c2, w9, m4, m5, m6, hid ?_⟩
    refine ⟨_, _, _, T, M ++ [⟨ao, out.length + 5, c, i⟩], Nat.le_refl _, ⟨HF.out.ok, HF.out.one, HF.out.four, by have := HF.out.few; simp; omega, fun x hx => ?_⟩, (desk_back hT.out m7.out).mid⟩
    rcases List.mem_append.1 hx with hx | hx
    · exact HF.out.short x hx
    · have : x = ⟨ao, out.length + 5, c, i⟩ := by simpa using hx
      subst this
      show out.length + 5 ≤ 69
      omega)
  clear C29 A6 hw7
  have hM2 := hid hMl
  clear hMl hfl hle
  go_upto_region 12 with fail
  go_region_law (first | (go_simp; go_at_call 31; refine C31.out.mono ?_; rintro e w8 ⟨ao, c, rfl, s1, s2, ao2, c2, w9, hr, s3, s4, HI⟩; have HR := hid hr; clear hr) | (refine step_append_run (by rfl) (.tmp 92) (.tmp 96) 33 (by rfl) _ _ _ _ (by rfl) (by rfl) HR.out ?_))
  all_goals clear C31 HR s1 s2
  all_goals (go_wp2; go_ret; rw [← HN.out]; exact ⟨rfl, HI.out⟩)
end Go.Proofs.Ythjoppgomopkfaa
