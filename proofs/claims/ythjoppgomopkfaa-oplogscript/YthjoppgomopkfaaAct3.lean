import Derived.Test.YthjoppgomopkfaaDesk
import Derived.Test.YthjoppgomopkfaaGath0
import Derived.Test.YthjoppgomopkfaaSame
namespace Go.Proofs.Ythjoppgomopkfaa
open Go.RowKit
set_option linter.unusedVariables false

theorem EntsW.take {w : World} {ao : Option Addr} {c : Nat} {l : List Ent} (h : EntsW w (.slice ao l.length c) l) {m : Nat} (hm : m ≤ l.length) : EntsW w (.slice ao m c) (l.take m) := by
  obtain ⟨ao', c', e, h1, h2, h3⟩ := h
  simp only [Value.slice.injEq, true_and] at e
  obtain ⟨rfl, rfl⟩ := e
  have hl : (l.take m).length = m := by rw [List.length_take]; omega
  refine ⟨ao, c, by rw [hl], by omega, fun e => ?_, fun i x hx => ?_⟩
  · obtain ⟨rfl, rfl⟩ := h2 e
    exact ⟨by simp, rfl⟩
  · have hi := (List.getElem?_eq_some_iff.1 hx).1
    rw [List.getElem?_take, if_pos (by omega)] at hx
    exact h3 i x hx
theorem gath_m {w : World} {g h b n : Nat} {L ps : List Ent} {cs : List Comp} (hA : All (logP g h b (b + L.length) n ps ++ cs) w) (hk : LogOk b n L ps) (m : Nat) :
    Calls Try.prog 32 #[.pointer (some ⟨g, 0, none⟩), .int .i64 (b : Int), .int .i64 (m : Int)] w fun e w' => ∃ v, e = .returned (.tuple #[v, .bool true]) ∧ All (entC v (L.take m) :: (logP g h b (b + L.length) n ps ++ cs)) w' := by
  cases m with
  | zero =>
    refine (gath_zero hA).mono ?_
    rintro e w' ⟨rfl, A⟩
    exact ⟨_, rfl, A⟩
  | succ m =>
    refine (gath_all (lim := ((m + 1 : Nat) : Int)) hA hk (by omega)).mono ?_
    rintro e w' ⟨v, rfl, A⟩
    rw [show outL ((m + 1 : Nat) : Int) L = L.take (m + 1) from by unfold outL; rw [if_neg (by omega)]; rfl] at A
    exact ⟨v, rfl, A⟩
set_option maxHeartbeats 1600000 in
set_option maxRecDepth 1000000 in
theorem act_3 {n D k i : Nat} {va vb vm : Value} {T : List Tw} {M : List Mk} {cs : List Comp} {w : World} {x : Act0} (hA : All (deskL n D va vb vm T M ++ cs) w) (hF : DF n T M i) (hk : k < T.length) (hx : ∀ W, All cs W → x.good W) (hi : i ≤ 1099511627776) (hm : amN x.kd 8 = 3) : Calls Try.prog 9 #[.pointer (some ⟨D, 0, none⟩), .int .i64 (k : Int), .int .i64 (i : Int), x.V] w fun e w' => e = .returned (.bool true) ∧ DeskI n D T.length (i + 1) cs w' := by
  obtain ⟨t, hT⟩ : ∃ t, Hid (T[k]? = some t) := ⟨_, hid (List.getElem?_eq_getElem hk)⟩
  have hok := hid (hF.ok t (List.mem_of_getElem? hT.out))
  obtain ⟨kd, lg, op, ms, ⟨ec, en, ek, enm, etx, em, eq⟩, s, l⟩ := x
  obtain ⟨sa, sc, es, _⟩ := (hx w (hA.sublist (List.sublist_append_right _ _))).rd
  simp only at es hm
  subst es
  obtain ⟨K, hK⟩ : ∃ K, Hid (K = w.heap.size) := ⟨_, hid rfl⟩
  have A1 : Hid (All (deskL n D va vb vm T M ++ (blkC K [.int .i64 kd, .int .i64 lg, .int .i64 op, .int .i64 ms, .int .i64 ec, .int .i64 en, .int .i64 ek, .string enm, .string etx, .int .i64 em, .int .i64 eq, .slice sa l.length sc] 42 :: cs)) (w.alloc (.cells #[.int .i64 kd, .int .i64 lg, .int .i64 op, .int .i64 ms, .int .i64 ec, .int .i64 en, .int .i64 ek, .string enm, .string etx, .int .i64 em, .int .i64 eq, .slice sa l.length sc] 42))) := hid (by
    have h1 := hA.addBlk [.int .i64 kd, .int .i64 lg, .int .i64 op, .int .i64 ms, .int .i64 ec, .int .i64 en, .int .i64 ek, .string enm, .string etx, .int .i64 em, .int .i64 eq, .slice sa l.length sc] 42
    rw [← hK.out] at h1
    exact h1.perm List.perm_middle.symm)
  obtain ⟨ra, ca, rb, cb, rfl, rfl, RD⟩ := desk_reads hT.out A1.out
  obtain ⟨c0, c1, pa, pb⟩ := RD
  have HAM : Hid (∀ W : World, Calls Try.prog 8 #[.int .i64 kd, .int .i64 8] W fun e w' => e = .returned (.int .i64 3) ∧ Below W.heap.size W w') := hid (fun W => by
    refine (among_is kd 8 (by decide) (by decide)).mono ?_
    rintro e w' ⟨rfl, rfl⟩
    rw [hm]
    exact ⟨rfl, Below.refl _ _⟩)
  have HX := hid hx
  have HF := hid hF
  have z0 : (w.alloc (.cells #[.int .i64 kd, .int .i64 lg, .int .i64 op, .int .i64 ms, .int .i64 ec, .int .i64 en, .int .i64 ek, .string enm, .string etx, .int .i64 em, .int .i64 eq, .slice sa l.length sc] 42)).cell? ⟨w.heap.size, 0, none⟩ = some (.int .i64 kd) := by rw [cell_at (heap_alloc_new w _)]; rfl
  have j1 : (k : Int) < (T.length : Int) := by omega
  have hN4 := hF.four
  generalize hN : T.length = N at *
  have HN := hid hN
  clear hA hx hF hm hN
  go_enter Try.func9, Try.ntmps9
  go_upto_region 1 with fail
  rw [← hK.out] at z0 ⊢
  clear hK
  generalize (w.alloc (.cells #[.int .i64 kd, .int .i64 lg, .int .i64 op, .int .i64 ms, .int .i64 ec, .int .i64 en, .int .i64 ek, .string enm, .string etx, .int .i64 em, .int .i64 eq, .slice sa l.length sc] 42)) = w1 at *
  go_quiet (fail)
  go_wp2_with fail
  refine (HAM.out _).mono ?_
  rintro e w3 ⟨rfl, hb⟩
  have A3 := hid ((A1.out.drewN _).later hb)
  clear HAM A1 hb c0 c1 pa pb z0
  have ZZ : Hid (∀ (Y : List Comp) W, All (Y ++ (blkC K [.int .i64 kd, .int .i64 lg, .int .i64 op, .int .i64 ms, .int .i64 ec, .int .i64 en, .int .i64 ek, .string enm, .string etx, .int .i64 em, .int .i64 eq, .slice sa l.length sc] 42 :: cs)) W → W.cell? ⟨K, 0, none⟩ = some (.int .i64 kd) ∧ W.cell? ⟨K, 1, none⟩ = some (.int .i64 lg) ∧ W.cell? ⟨K, 2, none⟩ = some (.int .i64 op) ∧ W.cell? ⟨K, 3, none⟩ = some (.int .i64 ms) ∧ W.cell? ⟨K, 4, none⟩ = some (.int .i64 ec) ∧ W.cell? ⟨K, 5, none⟩ = some (.int .i64 en) ∧ W.cell? ⟨K, 6, none⟩ = some (.int .i64 ek) ∧ W.cell? ⟨K, 7, none⟩ = some (.string enm) ∧ W.cell? ⟨K, 8, none⟩ = some (.string etx) ∧ W.cell? ⟨K, 9, none⟩ = some (.int .i64 em) ∧ W.cell? ⟨K, 10, none⟩ = some (.int .i64 eq) ∧ W.cell? ⟨K, 11, none⟩ = some (.slice sa l.length sc)) := hid (fun Y W hW => by
    have e : W.heap[K]? = some (.cells [.int .i64 kd, .int .i64 lg, .int .i64 op, .int .i64 ms, .int .i64 ec, .int .i64 en, .int .i64 ek, .string enm, .string etx, .int .i64 em, .int .i64 eq, .slice sa l.length sc].toArray 42 (0, 0)) := hW.blk (by simp)
    refine ⟨?_, ?_, ?_, ?_, ?_, ?_, ?_, ?_, ?_, ?_, ?_, ?_⟩ <;> (rw [cell_at e]; rfl))
  obtain ⟨z0, z1, z2, z3, z4, z5, z6, z7, z8, z9, z10, z11⟩ := ZZ.out _ _ A3.out
  have A4 := hid (desk_out hT.out A3.out)
  have hle : t.L.length ≤ 64 := Nat.le_trans hok.out.few hok.out.le
  obtain ⟨vo, vc, hv, hvc⟩ := owns7_form A4.out.tail.tail.refRow
  have p1 := A4.out.tail.tail.ref.c1
  have p2 := A4.out.tail.tail.ref.c2
  have hpl := World.block_lt_of_cell? _ _ p1
  rw [hv] at p2
  obtain ⟨m, hm⟩ : ∃ m, m = amN ms (t.L.length + 1) := ⟨_, rfl⟩
  have hml : m ≤ t.L.length := by have := amN_lt ms (n := t.L.length + 1) (by omega); omega
  have hll : (t.L.take m).length = m := by rw [List.length_take]; omega
  have C8 : Hid (∀ W : World, Calls Try.prog 8 #[.int .i64 ms, .int .i64 (IntKind.i64.wrap ((t.L.length : Int) + 1))] W fun e w' => e = .returned (.int .i64 (m : Int)) ∧ Below W.heap.size W w') := hid (fun W => by
    have e1 : IntKind.i64.wrap ((t.L.length : Int) + 1) = ((t.L.length + 1 : Nat) : Int) := by rw [IntKind.wrap_i64]; omega
    rw [e1]
    refine (among_is ms (t.L.length + 1) (by omega) (by omega)).mono ?_
    rintro e w' ⟨rfl, rfl⟩
    rw [← hm]
    exact ⟨rfl, Below.refl _ _⟩)
  have C32 := hid (fun W Z (A : All (logP t.g t.h t.b (t.b + t.L.length) n t.ps ++ Z) W) => gath_m (w := W) (cs := Z) A hok.out m)
  clear A3 z0 z1 z2 z4 z5 z6 z7 z8 z9 z10 z11 hm
  go_upto_region 15 with fail
  go_region_held3 (fun W => W.cell? ⟨K, 3, none⟩ = some (.int .i64 ms) ∧ W.cell? ⟨t.p, 2, none⟩ = some (.slice vo t.L.length vc)) (go_keep)
    (first
      | (go_at_call 8; refine (C8.out _).mono ?_; rintro e w5 ⟨rfl, hb5⟩; have A5 := hid (A4.out.drew.later hb5); have s3 := (ZZ.out (logP t.g t.h t.b (t.b + t.L.length) n t.ps ++ (refP t.p n t.b t.v t.L ++ (hdL D _ _ vm (pA T) (pB T) M ++ OT n T k))) _ (by simpa [List.append_assoc] using A5.out)).2.2.2.1; have p2' := A5.out.tail.tail.ref.c2; rw [hv] at p2'; clear hb5))
  have p1' := A5.out.tail.tail.ref.c1
  have C32' := hid (C32.out _ _ A5.out)
  clear C8 C32 s3 z3 p1 p2 A4
  go_wp2_with fail
  refine C32'.out.mono ?_
  rintro e w6 ⟨v1, rfl, A6⟩
  have A6 := hid A6
  have q2 := A6.out.tail.tail.tail.ref.c2
  rw [hv] at q2
  have E1 := EntsW.of_owns A6.out.1.2.1
  have E2 : EntsW w6 (.slice vo m vc) (t.L.take m) := by
    have := EntsW.of_owns A6.out.tail.tail.tail.refRow
    rw [hv] at this
    exact this.take hml
  have C29 := hid (same_eq E1 E2 (by omega))
  obtain ⟨a1, k1, rfl, _⟩ := owns7_form A6.out.1.2.1
  rw [hll] at C29 ⊢
  have hmv : m ≤ vc := by omega
  clear C32' A5 p1' p2' E1 E2 hll
  have hm1 : (m : Int) ≤ (vc : Int) := by omega
  have A7 := hid A6.out.tail
  clear A6
  go_wp2_with fail
  refine C29.out.mono ?_
  rintro e w7 ⟨rfl, q7, hw7⟩
  have A8 := hid (show All _ w7 from by rw [hw7]; exact A7.out.drewN q7)
  clear C29 A7 hw7
  go_wp2
  go_ret
  rw [← HN.out]
  exact ⟨rfl, DeskI.same hT.out HF.out A8.out⟩
end Go.Proofs.Ythjoppgomopkfaa
