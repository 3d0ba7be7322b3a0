import Derived.Test.YtphcfkfdkaphbaaTMark
namespace Go.Proofs.Ytphcfkfdkaphbaa
open Go.RowKit
set_option linter.unusedVariables false

theorem rowM_cells {w : World} {base : Nat} {ao : Option Addr} {n c : Nat} {M : List Mk} (h : w.ownsRow base 96 2 (.slice ao n c) M.length (flatM M)) {i : Nat} {x : Mk} (hx : M[i]? = some x) : ∃ g, ao = some ⟨g, 0, none⟩ ∧ g < w.heap.size ∧ w.cell? ⟨g, i * 2, none⟩ = some (.slice x.a x.m x.c) ∧ w.cell? ⟨g, i * 2 + 1, none⟩ = some (.string x.s) := by
  have hi := (List.getElem?_eq_some_iff.1 hx).1
  rcases h.2 with ⟨_, e⟩ | ⟨g, cap, cur, e, _, h2, h3, h4, h5, h6⟩
  · omega
  · simp only [Value.slice.injEq] at e
    obtain ⟨rfl, rfl, rfl⟩ := e
    have key : ∀ j, j < 2 → cur[i * 2 + j]? = x.cells[j]? := fun j hj => by
      have e1 : (cur.toList.take (M.length * 2))[i * 2 + j]? = (flatM M)[i * 2 + j]? := by rw [h6]
      rw [List.getElem?_take, if_pos (by omega), Array.getElem?_toList, flatM_at hx hj] at e1
      exact e1
    refine ⟨g, rfl, (Array.getElem?_eq_some_iff.1 h2).1, ?_, ?_⟩
    · rw [cell_at h2]; exact key 0 (by omega)
    · rw [cell_at h2]; exact key 1 (by omega)
theorem mk_row {D : Nat} {va vb vm : Value} {T : List Tq} {M : List Mk} {cs : List Comp} {w : World} (hA : All (deskL D va vb vm T M ++ cs) w) {x : Mk} (hx : x ∈ M) : w.ownsRow 0 9 1 (.slice x.a x.m x.c) x.m (List.replicate x.m (.string x.s)) := by
  have := (hA.mem (c := Mk.comp x) (by simp only [deskL, hdL, List.mem_append, List.mem_map]; exact .inl (.inl (.inr ⟨x, hx, rfl⟩)))).2.1
  have h2 : w.ownsRow 0 9 1 (.slice x.a x.m x.c) (List.replicate x.m (Value.string x.s)).length (List.replicate x.m (.string x.s)) := this
  rwa [List.length_replicate] at h2

set_option maxHeartbeats 1600000 in
set_option maxRecDepth 1000000 in
theorem dstands_any {D i : Nat} {va vb vm : Value} {T : List Tq} {M : List Mk} {cs : List Comp} {w : World} (hA : All (deskL D va vb vm T M ++ cs) w) (hF : DF T M i) (hi : i ≤ 2932031007400) : Calls Try.prog 13 #[.pointer (some ⟨D, 0, none⟩)] w fun e w' => e = .returned (.bool true) ∧ All (deskL D va vb vm T M ++ cs) w' := by
  have hF4 := hF.four
  have hMl : M.length ≤ 2932031007400 := by have := hF.few; omega
  obtain ⟨t0, hT0⟩ : ∃ t, T[0]? = some t := ⟨_, List.getElem?_eq_getElem (by have := hF.one; omega)⟩
  obtain ⟨ra, ca, rb, cb, rfl, rfl, RD⟩ := desk_reads hT0 hA
  obtain ⟨am, cm, rfl⟩ := owns_form (show w.ownsRow 0 96 2 vm M.length (flatM M) from (hA.mem (c := markC vm M) (by simp [deskL, hdL])).2.1)
  have DB : Hid (∀ W, All (deskL D (.slice (some ⟨ra, 0, none⟩) T.length ca) (.slice (some ⟨rb, 0, none⟩) T.length cb) (.slice am M.length cm) T M ++ cs) W → W.cell? ⟨D, 0, none⟩ = some (.slice (some ⟨ra, 0, none⟩) T.length ca) ∧ W.cell? ⟨D, 2, none⟩ = some (.slice am M.length cm)) := hid (fun W hW => by
    have e := hW.blk (g := D) (vs := [.slice (some ⟨ra, 0, none⟩) T.length ca, .slice (some ⟨rb, 0, none⟩) T.length cb, .slice am M.length cm]) (t := 34) (by simp [deskL, hdL])
    exact ⟨by rw [cell_at e]; rfl, by rw [cell_at e]; rfl⟩)
  obtain ⟨c0, c2⟩ := DB.out _ hA
  have A0 := hid hA
  have HF := hid hF
  clear hA hF RD hT0
  go_enter Try.func13, Try.ntmps13
  go_wp2_with fail
  clear c0 c2
  go_loopw [15] (fun iv wr => ∃ (j : Nat), j ≤ M.length ∧ iv = .int .i64 (j : Int) ∧ Hid (All (deskL D (.slice (some ⟨ra, 0, none⟩) T.length ca) (.slice (some ⟨rb, 0, none⟩) T.length cb) (.slice am M.length cm) T M ++ cs) wr)) (fun iv _ => M.length - (intOf iv).toNat)
  case atStart => exact ⟨0, by omega, rfl, A0⟩
  case round =>
    clear A0
    obtain ⟨j, hj, rfl, A2⟩ := hrel
    by_cases hlt : j < M.length
    · have l1 : decide ((j : Int) < (M.length : Int)) = true := decide_eq_true (by omega)
      have l2 : (j : Int) < (M.length : Int) := by omega
      obtain ⟨x, hx⟩ : ∃ x, M[j]? = some x := ⟨_, List.getElem?_eq_getElem hlt⟩
      obtain ⟨g, rfl, hg, y0, y1⟩ := rowM_cells (show wr.ownsRow 0 96 2 (.slice am M.length cm) M.length (flatM M) from (A2.out.mem (c := markC (.slice am M.length cm) M) (by simp [deskL, hdL])).2.1) hx
      have hsh := HF.out.short x (List.mem_of_getElem? hx)
      have A3 := hid (A2.out.alloc (.cells #[.slice x.a x.m x.c, .string x.s] 96))
      have C50 := hid (hstands_any x.s (mk_row A3.out (List.mem_of_getElem? hx)) (by omega))
      clear hx hsh A2
      go_wp2_with fail
      refine C50.out.mono ?_
      rintro e w5 ⟨rfl, hb5⟩
      have A5 := hid (A3.out.later hb5)
      clear C50 A3 hb5 y0 y1
      go_wp2_with fail
      go_roundw
      case rel => exact ⟨j + 1, by omega, by go_num, A5⟩
      case measure => simp [intOf]; omega
    · have l1 : decide ((j : Int) < (M.length : Int)) = false := decide_eq_false (by omega)
      have l2 : ¬ ((j : Int) < (M.length : Int)) := by omega
      obtain ⟨c0, c2⟩ := DB.out _ A2.out
      go_wp2_with fail
      clear c0 c2 hlt l1 l2 hj
      go_loopw [28] (fun iv wr => ∃ (k : Nat), k ≤ T.length ∧ iv = .int .i64 (k : Int) ∧ Hid (All (deskL D (.slice (some ⟨ra, 0, none⟩) T.length ca) (.slice (some ⟨rb, 0, none⟩) T.length cb) (.slice am M.length cm) T M ++ cs) wr)) (fun iv _ => T.length - (intOf iv).toNat)
      case atStart => exact ⟨0, by omega, rfl, A2⟩
      case round =>
        clear A2
        obtain ⟨k, hk, rfl, A2⟩ := hrel
        by_cases hlt : k < T.length
        · have l1 : decide ((k : Int) < (T.length : Int)) = true := decide_eq_true (by omega)
          have l2 : (k : Int) < (T.length : Int) := by omega
          obtain ⟨t, hT⟩ : ∃ t, Hid (T[k]? = some t) := ⟨_, hid (List.getElem?_eq_getElem hlt)⟩
          have hok := hid (HF.out.ok t (List.mem_of_getElem? hT.out))
          have hle := hok.out.2
          have A3 := hid (desk_out hT.out A2.out)
          have SS : Hid (∀ (X : List Comp) W, All (X ++ (hdL D (.slice (some ⟨ra, 0, none⟩) T.length ca) (.slice (some ⟨rb, 0, none⟩) T.length cb) (.slice am M.length cm) (pA T) (pB T) M ++ (OT T k ++ cs))) W → (fun W => W.cell? ⟨D, 0, none⟩ = some (.slice (some ⟨ra, 0, none⟩) T.length ca) ∧ W.cell? ⟨D, 1, none⟩ = some (.slice (some ⟨rb, 0, none⟩) T.length cb) ∧ W.cell? ⟨ra, k, none⟩ = some (.pointer (some ⟨t.P, 0, none⟩)) ∧ W.cell? ⟨rb, k, none⟩ = some (.pointer (some ⟨t.R, 0, none⟩))) W) := hid (fun X W hW => by
            obtain ⟨a1, a2, a3, a4⟩ := hd_reads hT.out rfl hW
            exact ⟨a1, a2, a3, a4⟩)
          have q0 := hid (SS.out [_, _] _ A3.out)
          obtain ⟨c0, c1, pa, pb⟩ := SS.out [_, _] _ A3.out
          clear A2
          go_upto_region 10 with fail
          go_region_held3 (fun W => W.cell? ⟨D, 0, none⟩ = some (.slice (some ⟨ra, 0, none⟩) T.length ca) ∧ W.cell? ⟨D, 1, none⟩ = some (.slice (some ⟨rb, 0, none⟩) T.length cb) ∧ W.cell? ⟨ra, k, none⟩ = some (.pointer (some ⟨t.P, 0, none⟩)) ∧ W.cell? ⟨rb, k, none⟩ = some (.pointer (some ⟨t.R, 0, none⟩))) (first | exact q0.out | exact q1.out | exact q2.out | exact q3.out)
            (first
              | (go_at_call 47; refine (ArmedSP A3.out.drew hok.out.1 hle).mono ?_; rintro e w6 ⟨lv, rfl, A6⟩; have A6 := hid A6; have q1 := hid (SS.out [_, _, _] _ A6.out); obtain ⟨a1, k1, hlv⟩ := owns_form (show w6.ownsRow 0 9 1 lv _ _ from A6.out.1.2.1); rw [List.length_map] at hlv; subst hlv)
              | (go_at_call 48; refine (RArmed A6.out.cab (by omega)).mono ?_; rintro e w7 ⟨gv, rfl, A7⟩; have A7 := hid A7; have q2 := hid (SS.out [_, _, _, _] _ A7.out); obtain ⟨a2, k2, rfl⟩ := owns_form (show w7.ownsRow 0 50 2 gv _ _ from A7.out.1.2.1))
              | (go_at_call 43; refine (texts_any (by have h : w7.ownsRow 0 9 1 (.slice a1 t.ts.length k1) (t.ts.map fun x => Value.string x.t).length (t.ts.map fun x => .string x.t) := A7.out.tail.tail.1.2.1; rw [List.length_map] at h; exact h) A7.out.1.2.1 (by omega)).mono ?_; rintro e w8 ⟨rfl, hb⟩; have A8 := hid (A7.out.tail.bca.tail.later hb); have q3 := hid (SS.out [_, _] _ A8.out)))
          clear q0 q1 q2 A6 A7 A3 hb c0 c1 pa pb
          have hRB : w8.heap[t.R]? = some (.cells #[t.v] 30 (0, 0)) := A8.out.tail.1.2.1.1
          have hRW : w8.ownsRow 0 101 3 t.v t.ts.length (flatT t.ts) := A8.out.tail.1.2.1.2
          obtain ⟨ro, rc, hv⟩ := owns_form hRW
          have r0 : w8.cell? ⟨t.R, 0, none⟩ = some (.slice ro t.ts.length rc) := by rw [cell_at hRB, ← hv]; rfl
          have HV := hid hv
          obtain ⟨c0, c1, pa, pb⟩ := q3.out
          clear hRB hRW hv q3
          go_wp2_with fail
          clear c0 c1 pa pb r0 l1 l2
          go_loopw [60] (fun iv wr => ∃ (j : Nat), j ≤ t.ts.length ∧ iv = .int .i64 (j : Int) ∧ Hid (All (tabS t.P t.b (Maps.size t.D) t.D :: refC t.R t.v t.ts :: (hdL D (.slice (some ⟨ra, 0, none⟩) T.length ca) (.slice (some ⟨rb, 0, none⟩) T.length cb) (.slice am M.length cm) (pA T) (pB T) M ++ (OT T k ++ cs))) wr)) (fun iv _ => t.ts.length - (intOf iv).toNat)
          case atStart => exact ⟨0, by omega, rfl, A8⟩
          case round =>
            clear A8
            obtain ⟨j, hj, rfl, A9⟩ := hrel
            by_cases hjl : j < t.ts.length
            · have l1 : decide ((j : Int) < (t.ts.length : Int)) = true := decide_eq_true (by omega)
              have l2 : (j : Int) < (t.ts.length : Int) := by omega
              have l3 : (k : Int) < (T.length : Int) := by omega
              obtain ⟨x, hx⟩ : ∃ x, t.ts[j]? = some x := ⟨_, List.getElem?_eq_getElem hjl⟩
              have hxm := List.mem_of_getElem? hx
              obtain ⟨g, rfl, hg, y0, y1, y2⟩ := row3_cells (show wr.ownsRow 0 101 3 (.slice ro t.ts.length rc) t.ts.length (flatT t.ts) from HV.out ▸ A9.out.tail.1.2.1.2) hx
              have hsz := hok.out.1.wf x hxm
              have hhas : Maps.has t.D (.string x.t.data.toList) = true := (hok.out.1.has _).2 ⟨x, hxm, rfl⟩
              have hval : leftD t.D (.string x.t.data.toList) = x.l := hok.out.1.val x hxm
              obtain ⟨K, hK⟩ : ∃ K, Hid (K = wr.heap.size) := ⟨_, hid rfl⟩
              have A10 : Hid (All (blkC K [.string x.t, .int .i64 x.k, .int .i64 x.l] 101 :: tabS t.P t.b (Maps.size t.D) t.D :: refC t.R t.v t.ts :: (hdL D (.slice (some ⟨ra, 0, none⟩) T.length ca) (.slice (some ⟨rb, 0, none⟩) T.length cb) (.slice am M.length cm) (pA T) (pB T) M ++ (OT T k ++ cs))) (wr.alloc (.cells #[.string x.t, .int .i64 x.k, .int .i64 x.l] 101))) := hid (by
                have h1 := A9.out.addBlk [.string x.t, .int .i64 x.k, .int .i64 x.l] 101
                rw [← hK.out] at h1
                exact h1)
              have hgK : g ≠ K := by rw [hK.out]; omega
              have SK : Hid (∀ W, All (blkC K [.string x.t, .int .i64 x.k, .int .i64 x.l] 101 :: tabS t.P t.b (Maps.size t.D) t.D :: refC t.R t.v t.ts :: (hdL D (.slice (some ⟨ra, 0, none⟩) T.length ca) (.slice (some ⟨rb, 0, none⟩) T.length cb) (.slice am M.length cm) (pA T) (pB T) M ++ (OT T k ++ cs))) W → W.cell? ⟨D, 0, none⟩ = some (.slice (some ⟨ra, 0, none⟩) T.length ca) ∧ W.cell? ⟨ra, k, none⟩ = some (.pointer (some ⟨t.P, 0, none⟩)) ∧ W.cell? ⟨K, 0, none⟩ = some (.string x.t) ∧ W.cell? ⟨K, 2, none⟩ = some (.int .i64 x.l)) := hid (fun W hW => by
                obtain ⟨a1, _, a3, _⟩ := SS.out [_, _, _] _ hW
                have e : W.heap[K]? = some (.cells [.string x.t, .int .i64 x.k, .int .i64 x.l].toArray 101 (0, 0)) := hW.1.2.1
                exact ⟨a1, a3, by rw [cell_at e]; rfl, by rw [cell_at e]; rfl⟩)
              obtain ⟨d0, d1, d2, d3⟩ := SK.out _ A10.out
              clear A9 hx hxm
              go_upto_region 15 with fail
              rw [← hK.out]
              clear hK y0 y1 y2 hg hgK
              generalize (wr.alloc (.cells #[.string x.t, .int .i64 x.k, .int .i64 x.l] 101)) = w4 at *
              go_region_held3 (fun W => W.cell? ⟨D, 0, none⟩ = some (.slice (some ⟨ra, 0, none⟩) T.length ca) ∧ W.cell? ⟨ra, k, none⟩ = some (.pointer (some ⟨t.P, 0, none⟩)) ∧ W.cell? ⟨K, 0, none⟩ = some (.string x.t) ∧ W.cell? ⟨K, 2, none⟩ = some (.int .i64 x.l)) (first | exact ⟨d0, d1, d2, d3⟩ | exact p1.out)
                (first
                  | (go_at_call 24; refine (LeftS A10.out.tail.drew x.t hsz).mono ?_; rintro e w5 ⟨rfl, hw5⟩; have A11 := hid (show All _ w5 from hw5 ▸ A10.out.drew); have p1 := hid (SK.out _ A11.out); rw [hhas, hval]; clear hw5))
              clear d0 d1 d2 d3
              obtain ⟨d0, d1, d2, d3⟩ := p1.out
              clear p1
              go_wp2_with fail
              go_roundw
              case rel => exact ⟨j + 1, by omega, by go_num, hid A11.out.tail⟩
              case measure => simp [intOf]; omega
            · have l1 : decide ((j : Int) < (t.ts.length : Int)) = false := decide_eq_false (by omega)
              have l2 : ¬ ((j : Int) < (t.ts.length : Int)) := by omega
              go_wp2_with fail
              go_roundw
              case rel => exact ⟨k + 1, by omega, by go_num, hid (desk_back hT.out A9.out)⟩
              case measure => simp [intOf]; omega
        · have l1 : decide ((k : Int) < (T.length : Int)) = false := decide_eq_false (by omega)
          have l2 : ¬ ((k : Int) < (T.length : Int)) := by omega
          go_wp2
          go_ret
          exact ⟨rfl, A2.out⟩
end Go.Proofs.Ytphcfkfdkaphbaa
