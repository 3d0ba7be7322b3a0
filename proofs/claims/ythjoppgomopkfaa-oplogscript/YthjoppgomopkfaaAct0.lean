import Derived.Test.YthjoppgomopkfaaDesk
import Derived.Test.YthjoppgomopkfaaLog2
import Derived.Test.YthjoppgomopkfaaRefA
namespace Go.Proofs.Ythjoppgomopkfaa
open Go.RowKit
set_option linter.unusedVariables false

set_option maxHeartbeats 1600000 in
set_option maxRecDepth 1000000 in
theorem act_0 {n D k i : Nat} {va vb vm : Value} {T : List Tw} {M : List Mk} {cs : List Comp} {w : World} {x : Act0} (hA : All (deskL n D va vb vm T M ++ cs) w) (hF : DF n T M i) (hk : k < T.length) (hx : ∀ W, All cs W → x.good W) (hi : i ≤ 1099511627776) (hm : amN x.kd 8 = 0) : Calls Try.prog 9 #[.pointer (some ⟨D, 0, none⟩), .int .i64 (k : Int), .int .i64 (i : Int), x.V] w fun e w' => e = .returned (.bool true) ∧ DeskI n D T.length (i + 1) cs w' := by
  obtain ⟨t, hT⟩ : ∃ t, Hid (T[k]? = some t) := ⟨_, hid (List.getElem?_eq_getElem hk)⟩
  have hok := hid (hF.ok t (List.mem_of_getElem? hT.out))
  obtain ⟨kd, lg, op, ms, ⟨ec, en, ek, enm, etx, em, eq⟩, s, l⟩ := x
  obtain ⟨sa, sc, es, _⟩ := (hx w (hA.sublist (List.sublist_append_right _ _))).rd
  simp only at es hm
  subst es
  obtain ⟨K, hK⟩ : ∃ K, Hid (K = w.heap.size) := ⟨_, hid rfl⟩
  have A1 : Hid (All (deskL n D va vb vm T M ++ (blkC K [.int .i64 kd, .int .i64 lg, .int .i64 op, .int .i64 ms, .int .i64 ec, .int .i64 en, .int .i64 ek, .string enm, .string etx, .int .i64 em, .int .i64 eq, .slice sa l.length sc] 42 :: cs)) (w.alloc (.cells #[.int .i64 kd, .int .i64 lg, .int .i64 op, .int .i64 ms, .int .i64 ec, .int .i64 en, .int .i64 ek, .string enm, .string etx, .int .i64 em, .int .i64 eq, .slice sa l.length sc] 42))) := hid (by
    have h1 := hA.addBlk [.int .i64 kd, .int .i64 lg, .int .i64 op, .int .i64 ms, .int .i64 ec, .int .i64 en, .int .i64 ek, .string enm, .string etx, .int .i64 em, .int .i64 eq, .slice sa l.length sc] 42
    rw [← hK.out] at h1
    exact h1.perm List.perm_middle.symm)
  obtain ⟨ra, ca, rb, cb, rfl, rfl, RD⟩ := desk_reads hT.out A1.out
  obtain ⟨c0, c1, pa, pb⟩ := RD
  have HAM : Hid (∀ W : World, Calls Try.prog 8 #[.int .i64 kd, .int .i64 8] W fun e w' => e = .returned (.int .i64 0) ∧ Below W.heap.size W w') := hid (fun W => by
    refine (among_is kd 8 (by decide) (by decide)).mono ?_
    rintro e w' ⟨rfl, rfl⟩
    rw [hm]
    exact ⟨rfl, Below.refl _ _⟩)
  have HX := hid hx
  have HF := hid hF
  have z0 : (w.alloc (.cells #[.int .i64 kd, .int .i64 lg, .int .i64 op, .int .i64 ms, .int .i64 ec, .int .i64 en, .int .i64 ek, .string enm, .string etx, .int .i64 em, .int .i64 eq, .slice sa l.length sc] 42)).cell? ⟨w.heap.size, 0, none⟩ = some (.int .i64 kd) := by rw [cell_at (heap_alloc_new w _)]; rfl
  have j1 : (k : Int) < (T.length : Int) := by omega
  have hN4 := hF.four
  generalize hN : T.length = N at *
  have HN := hid hN
  clear hA hx hF hm hN
  go_enter Try.func9, Try.ntmps9
  go_upto_region 1 with fail
  rw [← hK.out] at z0 ⊢
  clear hK
  generalize (w.alloc (.cells #[.int .i64 kd, .int .i64 lg, .int .i64 op, .int .i64 ms, .int .i64 ec, .int .i64 en, .int .i64 ek, .string enm, .string etx, .int .i64 em, .int .i64 eq, .slice sa l.length sc] 42)) = w1 at *
  go_quiet (fail)
  go_wp2_with fail
  refine (HAM.out _).mono ?_
  rintro e w3 ⟨rfl, hb⟩
  have A3 := hid ((A1.out.drewN _).later hb)
  clear HAM A1 hb c0 c1 pa pb z0
  have ZZ : Hid (∀ (Y : List Comp) W, All (Y ++ (blkC K [.int .i64 kd, .int .i64 lg, .int .i64 op, .int .i64 ms, .int .i64 ec, .int .i64 en, .int .i64 ek, .string enm, .string etx, .int .i64 em, .int .i64 eq, .slice sa l.length sc] 42 :: cs)) W → W.cell? ⟨K, 0, none⟩ = some (.int .i64 kd) ∧ W.cell? ⟨K, 1, none⟩ = some (.int .i64 lg) ∧ W.cell? ⟨K, 2, none⟩ = some (.int .i64 op) ∧ W.cell? ⟨K, 3, none⟩ = some (.int .i64 ms) ∧ W.cell? ⟨K, 4, none⟩ = some (.int .i64 ec) ∧ W.cell? ⟨K, 5, none⟩ = some (.int .i64 en) ∧ W.cell? ⟨K, 6, none⟩ = some (.int .i64 ek) ∧ W.cell? ⟨K, 7, none⟩ = some (.string enm) ∧ W.cell? ⟨K, 8, none⟩ = some (.string etx) ∧ W.cell? ⟨K, 9, none⟩ = some (.int .i64 em) ∧ W.cell? ⟨K, 10, none⟩ = some (.int .i64 eq) ∧ W.cell? ⟨K, 11, none⟩ = some (.slice sa l.length sc)) := hid (fun Y W hW => by
    have e : W.heap[K]? = some (.cells [.int .i64 kd, .int .i64 lg, .int .i64 op, .int .i64 ms, .int .i64 ec, .int .i64 en, .int .i64 ek, .string enm, .string etx, .int .i64 em, .int .i64 eq, .slice sa l.length sc].toArray 42 (0, 0)) := hW.blk (by simp)
    refine ⟨?_, ?_, ?_, ?_, ?_, ?_, ?_, ?_, ?_, ?_, ?_, ?_⟩ <;> (rw [cell_at e]; rfl))
  obtain ⟨z0, z1, z2, z3, z4, z5, z6, z7, z8, z9, z10, z11⟩ := ZZ.out _ _ A3.out
  have A4 := hid (desk_out hT.out A3.out)
  have C17 := hid (Add_any A4.out.drew hok.out ⟨ec, en, ek, enm, etx, em, eq⟩)
  have C18 := hid (fun W Z (A : All (refP t.p n t.b t.v t.L ++ Z) W) => rAdd_any (w := W) (cs := Z) A hok.out.le hok.out.few hok.out.top ⟨ec, en, ek, enm, etx, em, eq⟩)
  generalize hq : addE t.b n t.L = q at *
  have HQ := hid hq
  clear A3 z0 z1 z2 z3 z11 hq
  go_upto_region 4 with fail
  go_region_held3 (fun W => W.cell? ⟨K, 4, none⟩ = some (.int .i64 ec) ∧ W.cell? ⟨K, 5, none⟩ = some (.int .i64 en) ∧ W.cell? ⟨K, 6, none⟩ = some (.int .i64 ek) ∧ W.cell? ⟨K, 7, none⟩ = some (.string enm) ∧ W.cell? ⟨K, 8, none⟩ = some (.string etx) ∧ W.cell? ⟨K, 9, none⟩ = some (.int .i64 em) ∧ W.cell? ⟨K, 10, none⟩ = some (.int .i64 eq)) (go_keep)
    (first
      | (go_at_call 17; refine C17.out.mono ?_; rintro e w5 ⟨rfl, l', ps', hl', hk', A5⟩; have A5 := hid A5; obtain ⟨_, _, _, _, s4, s5, s6, s7, s8, s9, s10, _⟩ := ZZ.out (logP t.g t.h t.b (t.b + l'.length) n ps' ++ (refP t.p n t.b t.v t.L ++ (hdL D _ _ vm (pA T) (pB T) M ++ OT n T k))) _ (by simpa [List.append_assoc] using A5.out))
      | (go_at_call 18; refine (C18.out _ _ A5.out.flip).mono ?_; rintro e w6 ⟨rfl, v', l'', hl'', A6⟩; have A6 := hid A6; obtain ⟨_, _, _, _, s4, s5, s6, s7, s8, s9, s10, _⟩ := ZZ.out (refP t.p n t.b v' l'' ++ (logP t.g t.h t.b (t.b + l'.length) n ps' ++ (hdL D _ _ vm (pA T) (pB T) M ++ OT n T k))) _ (by simpa [List.append_assoc] using A6.out)))
  have hE := hid (hl''.trans hl'.symm)
  clear hl' hl'' s4 s5 s6 s7 s8 s9 s10 z4 z5 z6 z7 z8 z9 z10 C17 C18
  go_wp2
  go_ret
  have A7 := A6.out.flip
  rw [hE.out] at A7
  have hF := HF.out
  rw [← HN.out]
  exact ⟨rfl, DeskI.mk (t' := { t with L := l', ps := ps', v := v' }) hT.out hF rfl rfl hk' A7⟩
end Go.Proofs.Ythjoppgomopkfaa
