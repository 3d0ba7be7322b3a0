import Derived.Test.YtdndfbgjaadbmaaRMain
import Derived.Test.YtdndfbgjaadbmaaShown
namespace Go.Proofs.Ytdndfbgjaadbmaa
open Go.RowKit
set_option linter.unusedVariables false

set_option maxHeartbeats 3200000 in
set_option maxRecDepth 1000000 in
theorem bitsReads_walk {w : World} {s0 s1 s2 : Value} {B0 B1 : List UInt8} {its : List It} (h0 : ReadsW w s0 B0) (h1 : ReadsW w s1 B1) (h : ItemsAt w s2 its) (hok : ∀ x ∈ its, x.Ok) (hl0 : B0.length ≤ 1099511627) (hl1 : B1.length ≤ 1099511627) (hsz : its.length ≤ 1099511627) :
    Calls Try.prog 4 #[s0, s1, s2] w fun e w' => e = .returned (.bool true) ∧ Below w.heap.size w w' := by
  have HH := hid h
  obtain ⟨ao, c, rfl, hcase⟩ := h
  have HC := hid hcase
  have HOK := hid hok
  have H0 := hid h0
  have H1 := hid h1
  obtain ⟨ao0, ca0, e0⟩ := h0.form
  obtain ⟨ao1, ca1, e1⟩ := h1.form
  subst e0 e1
  have A0 := hid (All.came w)
  clear hcase hok h0 h1
  go_enter Try.func4, Try.ntmps4
  go_wp2_with fail
  refine (shown_any w).mono ?_
  rintro e w1 ⟨rfl, h1⟩
  have A1 : Hid (LR w (w1.heap.size + 1) (w1.heap.size + 1 + 1) w1.heap.size (.slice ao0 B0.length ca0) (.slice ao1 B1.length ca1) B0 B1 0 (((w1.alloc (.cells #[.slice ao0 B0.length ca0, .slice ao1 B1.length ca1] 44)).alloc (.cells #[.pointer none, .pointer none] 46)).alloc (.cells #[.pointer none, .pointer none] 48))) := by
    have := (((A0.out.later h1).addArr 44 #[.slice ao0 B0.length ca0, .slice ao1 B1.length ca1]).addArr 46 #[.pointer none, .pointer none]).addArr 48 #[.pointer none, .pointer none]
    rw [World.size_alloc, World.size_alloc] at this
    exact this.swap
  clear h1 A0
  go_wp2
  generalize (((w1.alloc (.cells #[.slice ao0 B0.length ca0, .slice ao1 B1.length ca1] 44)).alloc (.cells #[.pointer none, .pointer none] 46)).alloc (.cells #[.pointer none, .pointer none] 48)) = w2 at *
  generalize hDA : w1.heap.size = DA at *
  generalize hPA : DA + 1 = PA at *
  generalize hXA : PA + 1 = XA at *
  clear hDA hPA hXA
  go_loopw [11] (fun kv wr => ∃ k : Nat, k ≤ 2 ∧ kv = .int .i64 (k : Int) ∧ Hid (LR w PA XA DA (.slice ao0 B0.length ca0) (.slice ao1 B1.length ca1) B0 B1 k wr)) (fun kv _ => 2 - (intOf kv).toNat)
  case atStart => exact ⟨0, by omega, rfl, A1⟩
  case round =>
    obtain ⟨k, hk, rfl, hrel⟩ := hrel
    clear A1
    by_cases hk2 : k < 2
    · obtain ⟨pa, xa, cs, s, B, hO⟩ := hrel.out.opens hk2 H0.out H1.out
      have HO := hid hO
      obtain ⟨aos, cas, es⟩ := hO.reads.form
      subst es
      have hk2' : (k : Int) < 2 := by omega
      have d0 : wr.cell? ⟨DA, k, none⟩ = some (.slice aos B.length cas) := by rw [cell_at (hO.all.mem (c := arrC DA 44 #[.slice ao0 B0.length ca0, .slice ao1 B1.length ca1]) (by simp)).2.1]; exact hO.hs
      have hBl : B.length ≤ 1099511627 := by rcases hO.hB with rfl | rfl <;> assumption
      clear hrel hO
      go_wp2_with fail
      refine (lent_w HO.out.reads (by omega)).mono ?_
      rintro e w3 ⟨rfl, q1, q2⟩
      have A2 := hid (HO.out.all.addRow q2 q1)
      clear q1 q2 d0
      generalize hL : wr.heap.size = L at *
      clear hL
      have d1 : w3.cell? ⟨DA, k, none⟩ = some (.slice aos B.length cas) := by rw [cell_at (A2.out.mem (c := arrC DA 44 #[.slice ao0 B0.length ca0, .slice ao1 B1.length ca1]) (by simp)).2.1]; exact HO.out.hs
      have hsl := fun w => cut_run L 0 B.length (B.length + 8) (B.length + 8) (by omega) (by omega) w
      go_wp2_with fail
      refine (NewReader_any (lent_reads A2.out.1.2.1 rfl) (by omega)).mono ?_
      rintro e w4 ⟨b, D, rv, rfl, q1, q2, q3, q4⟩
      have A3 := hid ((A2.out.addRd q2 q1 q3 q4).pick 2 _ rfl)
      have p0 : w4.cell? ⟨PA, k, none⟩ = some (.pointer none) := by rw [cell_at A3.out.1.2.1]; exact HO.out.hp
      have p1 : w4.frozen? ⟨PA, k, none⟩ = false := free_at A3.out.1.2.1 k
      have A4 := hid (A3.out.setArr k (.pointer (some ⟨b, 0, none⟩)))
      have d2 : (w4.setCell ⟨PA, k, none⟩ (.pointer (some ⟨b, 0, none⟩))).cell? ⟨DA, k, none⟩ = some (.slice aos B.length cas) := by rw [cell_at (A4.out.mem (c := arrC DA 44 #[.slice ao0 B0.length ca0, .slice ao1 B1.length ca1]) (by simp)).2.1]; exact HO.out.hs
      clear q1 q2 q3 q4 A2 A3 d1 hsl
      go_wp2_with fail
      generalize w4.setCell ⟨PA, k, none⟩ (.pointer (some ⟨b, 0, none⟩)) = w5 at *
      refine (xnewr_any (HO.out.reads0.below (A4.out.mem (c := inC w) (by simp [HO.out.came])).2.1) (by omega)).mono ?_
      rintro e w6 ⟨x, v, rfl, q1, q2, q3, q4⟩
      have A5 := hid ((A4.out.addXr q2 q1 q3 q4).pick 4 _ rfl)
      have p2 : w6.cell? ⟨XA, k, none⟩ = some (.pointer none) := by rw [cell_at A5.out.1.2.1]; exact HO.out.hx
      have p3 : w6.frozen? ⟨XA, k, none⟩ = false := free_at A5.out.1.2.1 k
      have A6 := hid (A5.out.setArr k (.pointer (some ⟨x, 0, none⟩)))
      have d3 : (w6.setCell ⟨XA, k, none⟩ (.pointer (some ⟨x, 0, none⟩))).cell? ⟨DA, k, none⟩ = some (.slice aos B.length cas) := by rw [cell_at (A6.out.mem (c := arrC DA 44 #[.slice ao0 B0.length ca0, .slice ao1 B1.length ca1]) (by simp)).2.1]; exact HO.out.hs
      clear q1 q2 q3 q4 A4 A5 d2 p0 p1
      go_wp2_with fail
      generalize w6.setCell ⟨XA, k, none⟩ (.pointer (some ⟨x, 0, none⟩)) = w7 at *
      refine (still_w (Reads.of_owns (A6.out.mem (c := rowC (.slice (some ⟨L, 0, none⟩) (B.length + 8) (B.length + 8)) (behind B 8)) (by simp)).2.1) (HO.out.reads0.below (A6.out.mem (c := inC w) (by simp [HO.out.came])).2.1) (by omega)).mono ?_
      rintro e w8 ⟨rfl, q, rfl⟩
      have hkp : k < pa.size := (Array.getElem?_eq_some_iff.1 HO.out.hp).1
      have A7 : Hid (All (rowC (.slice (some ⟨L, 0, none⟩) (B.length + 8) (B.length + 8)) (behind B 8) :: prC b D rv B 0 0 :: xrC x v B B 0 0 :: arrC PA 46 (pa.setIfInBounds k (ptr b)) :: arrC XA 48 (xa.setIfInBounds k (ptr x)) :: arrC DA 44 #[.slice ao0 B0.length ca0, .slice ao1 B1.length ca1] :: cs) (w7.drewN q)) := by
        exact (((A6.out.drewN q).place 2 (by simp)).pick 3 _ rfl).pick 4 _ rfl
      have p4 : w7.cell? ⟨PA, k, none⟩ = some (.pointer (some ⟨b, 0, none⟩)) := by
        rw [cell_at (A6.out.mem (c := arrC PA 46 (pa.setIfInBounds k (.pointer (some ⟨b, 0, none⟩)))) (by simp)).2.1]
        simp [hkp]
      clear A6 d3 p2 p3
      go_wp2
      go_loopw [14] (fun iv wr => ∃ (i : Nat) (ll : List UInt8), i ≤ B.length + 8 ∧ iv = .int .i64 (i : Int) ∧ Hid (ll.length = B.length + 8 ∧ All (rowC (.slice (some ⟨L, 0, none⟩) (B.length + 8) (B.length + 8)) ll :: prC b D rv B 0 0 :: xrC x v B B 0 0 :: arrC PA 46 (pa.setIfInBounds k (ptr b)) :: arrC XA 48 (xa.setIfInBounds k (ptr x)) :: arrC DA 44 #[.slice ao0 B0.length ca0, .slice ao1 B1.length ca1] :: cs) wr)) (fun iv _ => B.length + 8 - (intOf iv).toNat)
      case atStart => exact ⟨0, behind B 8, by omega, rfl, by rw [behind_len], by first | exact A7.out | exact A7.out.drew⟩
      case round =>
        obtain ⟨i, ll, hi, rfl, hrel⟩ := hrel
        clear A7
        by_cases hlt : i < B.length + 8
        · obtain ⟨y, hy, q0, q1, hR⟩ := hrel.out.2.row_next hrel.out.1 i hlt
          have HR := hid hR
          have RL := hid hrel.out.1
          clear hrel hR
          go_wp2
          go_roundw
          case rel =>
            obtain ⟨z, hz⟩ := HR.out _ rfl
            exact ⟨i + 1, ll.set i z, by omega, by go_num, by rw [List.length_set]; exact RL.out, hz⟩
          case measure => simp [intOf]; omega
        · have R := hid (HO.out.back _ b D rv x v hrel.out.2.tail)
          clear hrel HO
          go_wp2
          go_roundw
          case rel => exact ⟨k + 1, by omega, by go_num, R⟩
          case measure => simp [intOf]; omega
    · have hr : LR w PA XA DA (.slice ao0 B0.length ca0) (.slice ao1 B1.length ca1) B0 B1 2 wr := by
        have e : k = 2 := by omega
        rw [← e]; exact hrel.out
      obtain ⟨p0, p1, hall⟩ := hr
      have M0 : Hid (Mr w PA XA DA (.slice ao0 B0.length ca0) (.slice ao1 B1.length ca1) B0 B1 wr.heap.size 0 (wr.alloc (.cells #[.slice none 0 0, .slice none 0 0] 33))) := ⟨p0, p1, _, _, [], Nat.le_refl _, by simp, hall.addShelf⟩
      have hk3 : ¬ ((k : Int) < 2) := by omega
      clear hrel hall hk hk2
      go_wp2
      clear hk3
      generalize wr.alloc (.cells #[.slice none 0 0, .slice none 0 0] 33) = w5 at *
      generalize wr.heap.size = S at *
      clear H0 H1
      go_loopw [16] (fun iv wr => ∃ i : Nat, i ≤ its.length ∧ iv = .int .i64 (i : Int) ∧ Hid (Mr w PA XA DA (.slice ao0 B0.length ca0) (.slice ao1 B1.length ca1) B0 B1 S i wr)) (fun iv _ => its.length - (intOf iv).toNat)
      case atStart => exact ⟨0, by omega, rfl, M0⟩
      case round =>
        obtain ⟨i, hi, rfl, hrel⟩ := hrel
        clear M0
        by_cases hlt : i < its.length
        · obtain ⟨kk, hkk, hm⟩ : ∃ kk : Nat, kk < 2 ∧ (i : Int) % 2 = (kk : Int) := ⟨i % 2, by omega, by omega⟩
          obtain ⟨x, hx⟩ : ∃ x, its[i]? = some x := ⟨_, List.getElem?_eq_getElem hlt⟩
          obtain ⟨g, o, rfl, hg, hcells⟩ : ∃ g o, ao = some ⟨g, o, none⟩ ∧ g < w.heap.size ∧ (wr.cell? ⟨g, o + i * 4, none⟩ = some (.int .i64 x.kind) ∧ wr.cell? ⟨g, o + i * 4 + 1, none⟩ = some (.int .i64 x.n) ∧ wr.cell? ⟨g, o + i * 4 + 2, none⟩ = some (.bool x.v) ∧ wr.cell? ⟨g, o + i * 4 + 3, none⟩ = some (.string x.s)) := by
            rcases HC.out with e | ⟨g, o, e, hg, hcell⟩
            · rw [e] at hlt; simp at hlt
            · refine ⟨g, o, e, hg, ?_⟩
              have hb := hrel.out.below
              rw [hb.cell (p := ⟨g, o + i * 4, none⟩) hg, hb.cell (p := ⟨g, o + i * 4 + 1, none⟩) hg, hb.cell (p := ⟨g, o + i * 4 + 2, none⟩) hg, hb.cell (p := ⟨g, o + i * 4 + 3, none⟩) hg]
              exact hcell i x hx
          obtain ⟨x0', x1', x2', x3'⟩ := hcells
          have hxo := HOK.out x (List.mem_of_getElem? hx)
          obtain ⟨p, B, rest, ov, wv, es, ht, hN, hA, hback⟩ := hrel.out.turn kk hkk (by omega) (by omega)
          have hBl : B.length ≤ 1099511627 := by rcases ht.hB with rfl | rfl <;> assumption
          have c0 := ht.c0
          have c1 := ht.c1
          have HW := hid (read_any hA.drew hxo (by omega) (by omega))
          have HB := hid hback
          clear hx hxo hA hback hrel ht hN
          have hkk' : (kk : Int) < 2 := by omega
          have hmt : (i : Int).tmod 2 = (kk : Int) := by rw [Int.tmod_eq_emod_of_nonneg (by omega)]; exact hm
          have hlt' : (i : Int) < (its.length : Int) := by omega
          go_wp2_with fail
          go_region_law (go_simp; go_at_call 23; refine Calls.mono HW.out ?_; rintro e w2 ⟨rfl, hE⟩; have HM := hid (HB.out w2 hE); clear hE)
          all_goals go_wp2
          all_goals go_roundw
          all_goals first | exact ⟨i + 1, by omega, by go_num, HM⟩ | (simp [intOf]; omega)
        · obtain ⟨q0, q1, ov, wv, es, l2, l3, hall⟩ := hrel.out
          have hes : es.length ≤ 109951162777 := by omega
          have HC2 := hid (holds_any (Cn.spA hall l3).box (Cn.reads hall l3) (by omega))
          have HS2 := fun q => hid (spoil_any (Cn.spA (hall.drewN q) l3) (by omega))
          clear l2 l3 hall hrel
          go_wp2_with fail
          refine Calls.mono HC2.out ?_
          rintro e w2 ⟨rfl, q, rfl⟩
          clear HC2
          go_wp2_with fail
          refine Calls.mono (HS2 q).out ?_
          rintro e w3 ⟨rfl, hcs⟩
          have A0 : Hid (Lr w PA XA DA (.slice ao0 B0.length ca0) (.slice ao1 B1.length ca1) B0 B1 w3) := ⟨q0, q1, hcs⟩
          clear HS2 hcs
          go_wp2
          go_loopw [20] (fun kv wr => ∃ k : Nat, k ≤ 2 ∧ kv = .int .i64 (k : Int) ∧ Hid (Lr w PA XA DA (.slice ao0 B0.length ca0) (.slice ao1 B1.length ca1) B0 B1 wr)) (fun kv _ => 2 - (intOf kv).toNat)
          case atStart => exact ⟨0, by omega, rfl, A0⟩
          case round =>
            obtain ⟨j, hj, rfl, hrel⟩ := hrel
            clear A0
            by_cases hj2 : j < 2
            · obtain ⟨p, B, rest, pa, xa, ht, hA, m1, m2, e1, e2, hback⟩ := hrel.out.turn j hj2
              have hBl : B.length ≤ 1099511627 := by rcases ht.hB with rfl | rfl <;> assumption
              have c0 := ht.c0
              have c1 := ht.c1
              have HA := hid hA
              have HB := hid hback
              have ME := hid (And.intro m1 (And.intro m2 (And.intro e1 e2)))
              have hroom := (HA.out.2.2.1.2.1 : XRd wr p.x p.v B p.rs p.place p.err).room
              have hrl := (runR_size p.rs 1000).2
              clear hrel hA hback ht m1 m2 e1 e2
              obtain ⟨b, D, rv, x, v, rs, place, err⟩ := p
              simp only at *
              go_wp2_with fail
              refine (Err_any HA.out.1.2.1).mono ?_
              rintro e w4 ⟨rfl, q2⟩
              have A1 := hid (HA.out.later q2)
              have d1 : w4.cell? ⟨XA, j, none⟩ = some (.pointer (some ⟨x, 0, none⟩)) := by rw [cell_at (A1.out.mem (List.mem_cons_of_mem _ (List.mem_cons_of_mem _ ME.out.2.1))).2.1]; exact ME.out.2.2.2
              have d0 : w4.cell? ⟨PA, j, none⟩ = some (.pointer (some ⟨b, 0, none⟩)) := by rw [cell_at (A1.out.mem (List.mem_cons_of_mem _ (List.mem_cons_of_mem _ ME.out.1))).2.1]; exact ME.out.2.2.1
              clear q2 HA c0 c1
              go_wp2_with fail
              refine (xErr_any A1.out.2.2.1.2.1).mono ?_
              rintro e w5 ⟨rfl, q5, rfl⟩
              have A2 := hid (A1.out.drewN q5)
              clear A1
              go_wp2_with fail
              refine (Bytes_any A2.out.1.2.1 (by omega) 1000).mono ?_
              rintro e w6 ⟨a, rfl, r0, ⟨rv1, r1⟩, r2⟩
              have A3 := hid ((A2.out.rdRow r1 r2 r0).pick 2 _ rfl)
              have d2 : w6.cell? ⟨XA, j, none⟩ = some (.pointer (some ⟨x, 0, none⟩)) := by rw [cell_at (A3.out.mem (List.mem_cons_of_mem _ (List.mem_cons_of_mem _ (List.mem_cons_of_mem _ ME.out.2.1)))).2.1]; exact ME.out.2.2.2
              obtain ⟨aa, ca, ea⟩ := owns_form r0
              subst ea
              clear r0 r1 r2 A2 d0 d1
              go_wp2_with fail
              refine (xBytes_any A3.out.1.2.1 (by omega) 1000).mono ?_
              rintro e w7 ⟨a2, rfl, r0, r1, r2⟩
              have A4 := hid (A3.out.xrRow r1 r2 r0)
              obtain ⟨ab, cb, eb⟩ := owns_form r0
              subst eb
              have RB := hid (Reads.of_owns r0)
              have RA := hid (Reads.of_owns A4.out.2.2.2.2.1.2.1)
              clear r0 r1 r2 A3 d2
              generalize (runR rs 1000).1 = l at *
              go_wp2_with fail
              refine (same_q (Or.inl RA.out) (Or.inl RB.out) (by omega)).mono ?_
              rintro e w8 ⟨rfl, q8, rfl⟩
              have R := hid (HB.out _ _ _ _ _ ((((A4.out.drewN q8).tail).pick 1 _ rfl).tail.swap))
              clear RA RB A4 HB ME
              go_wp2
              go_roundw
              case rel => exact ⟨j + 1, by omega, by go_num, R⟩
              case measure => simp [intOf]; omega
            · obtain ⟨p, p', hA⟩ := hrel.out
              have HB := hid (csR_below hA)
              clear hrel hA
              go_wp2
              go_ret
              exact ⟨rfl, HB.out⟩

end Go.Proofs.Ytdndfbgjaadbmaa
