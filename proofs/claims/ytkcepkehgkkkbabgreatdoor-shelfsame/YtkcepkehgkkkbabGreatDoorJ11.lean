import Derived.Test.YtkcepkehgkkkbabGreatDoorJ10
namespace Go.Proofs.YtkcepkehgkkkbabGreatDoor
open Go.RowKit
open Go.Maps (Keyed)
set_option linter.unusedVariables false

theorem zero3 (w : World) : (zeroValue 3).run Tryz.prog w = .ok (.int .i64 0) w := by kernel_rfl
theorem lawS : Keyed Tryz.prog 9 := Maps.string_keyed Tryz.underlying9
theorem Tryz.und66 : Tryz.prog.underlying 66 = some (.map 9 3) := by kernel_rfl
/-- What a group takes next. -/
def leftD (D : DataW Unit) (kl : Lit) : Int := match D.atKey kl (.lit (.int .i64 0)) with
  | .lit (.int _ n) => n
  | _ => 0
theorem leftD_of {D : DataW Unit} {kl : Lit} {v : Value} {ps : List MemPlace} (h : rE v = some (D.atKey kl (.lit (.int .i64 0)), ps)) : v = .int .i64 (leftD D kl) := by
  obtain ⟨a, rfl, e, _⟩ := plainElem_int_inv Tryz.underlying3 h
  simp only [Prod.mk.injEq] at e
  unfold leftD
  rw [e.1]
/-- 'v, ok := m[k]'. -/
theorem lookS {w : World} {b n : Nat} {D : DataW Unit} (h : w.ownsMap Tryz.prog 9 rE b n D) {key : Value} {kl : Lit} (hkey : keyOf Tryz.prog 9 key = some kl) : (Instr.lookup 66 (.map (some b)) key true).run Tryz.prog w = .ok (.tuple #[.int .i64 (leftD D kl), .bool (Maps.has D kl)]) w := by
  obtain ⟨v, ps, h1, h2⟩ := h.look_ok lawS Tryz.und66 (zero3 w) (zd := .lit (.int .i64 0)) (zp := []) (plainElem_int Tryz.underlying3 (by decide)) hkey
  rw [h1, leftD_of h2]

/-- The map has turned. -/
theorem All.mapTurn {b n n' : Nat} {D D' : DataW Unit} {cs : List Comp} {w w' : World} (h : All (mapC b n D :: cs) w) (hg : w.grownBy w' (some b)) (ho : w'.ownsMap Tryz.prog 9 rE b n' D') : All (mapC b n' D' :: cs) w' := by
  have hb : b < w.heap.size := h.1.2.2 b (by simp [mapC])
  refine h.turn ((grown_fr hg).mono (fun k hk => by simp at hk; simp [mapC, hk])) (mapC_good _ _ _) ho (fun k hk => Or.inl (by simpa [mapC] using hk)) (fun k hk => ?_)
  have hk' : k = b := by simpa [mapC] using hk
  subst hk'
  exact Nat.lt_of_lt_of_le hb hg.size
theorem mem2 {c d : Comp} {cs : List Comp} : d ∈ c :: d :: cs := List.mem_cons_of_mem _ List.mem_cons_self

/-- A list of one text, just made. -/
theorem All.addOne {cs : List Comp} {w : World} (h : All cs w) (t : ByteArray) : All (ownC 9 (.slice (some ⟨w.heap.size, 0, none⟩) 1 1) (txtV [t]) :: cs) (w.alloc (.cells #[.string t] 9)) := by
  refine h.addOwn (ba w _) ?_
  exact World.ownsRow_lit w #[.string t] 1 (Nat.le_refl _) (by unfold maxLen; omega) rfl

set_option maxHeartbeats 3200000 in
set_option maxRecDepth 1000000 in
/-- A group that wasn't there takes the first item. -/
theorem take_new {P b nb : Nat} {qs : List Qv} {cs : List Comp} {w : World} {i : Nat} {nm0 : ByteArray} {first : Int} {iv : Value} {D : DataW Unit} {item : ByteArray} {items : List ByteArray} (h : All (blkC P (flat qs) 74 :: ownC 9 iv (txtV (item :: items)) :: mapC b nb D :: cs) w) (h8 : qs.length = 8) (hq : qs[i]? = some ⟨nm0, first, iv, .map (some b)⟩) (hl : items.length < 32) (hf0 : 0 ≤ first) (hf1 : first + items.length < 1099511627776) (k : Int) (nm tx : ByteArray) (n m : Int) (hs : tx.size ≤ maxLen) (hhas : Maps.has D (.string tx.data.toList) = false) (hlen : Maps.size D < 4) (hnb : nb < 1048576) :
    Calls Tryz.prog 112 #[.pointer (some ⟨P, 0, none⟩), .int .i64 i, opV k nm tx n m] w fun e w' => ∃ so, e = .returned (.tuple #[resV 0 first (.slice so 1 1), .int .i64 i]) ∧ All (blkC P (flat qs) 74 :: ownC 9 iv (txtV (item :: items)) :: mapC b (nb + 1) (D.put (.string tx.data.toList) (.lit (.int .i64 (first + 1)))) :: ownC 9 (.slice so 1 1) (txtV [item]) :: cs) w' := by
  have hi8 : i < 8 := by have := (List.getElem?_eq_some_iff.1 hq).1; omega
  have hrow : w.ownsRow 0 9 1 iv (txtV (item :: items)).length (txtV (item :: items)) := h.2.2.1.2.1
  obtain ⟨ao, c, eo⟩ := owns_form hrow
  rw [List.length_map, List.length_cons] at eo
  subst eo
  have hsz : (w.alloc (opB k nm tx n m)).heap.size = w.heap.size + 1 := by simp
  have H1 := hid (((h.alloc (opB k nm tx n m)).addBlk [.int .i64 0, .int .i64 0, .slice none 0 0] 59))
  rw [hsz] at H1
  have HO := heap_alloc_new w (opB k nm tx n m)
  have o2 := hid (show ((w.alloc (opB k nm tx n m)).alloc (.cells [Value.int .i64 0, .int .i64 0, .slice none 0 0].toArray 59)).cell? ⟨w.heap.size, 2, none⟩ = some (.string tx) from cell_under (ba _ _) (by simp) (by rw [cell_at HO]; rfl))
  have HQ := hid hq
  have i1 : (0 : Int) ≤ (i : Int) := by omega
  have i2 : (i : Int) < 8 := by omega
  have i3 : ¬ (i : Int) < 0 := by omega
  have hkey := WideMaps.keyOf_string_mk Tryz.underlying9 hs
  clear h hq hsz HO hrow
  generalize hW : (w.alloc (opB k nm tx n m)).alloc (.cells [Value.int .i64 0, .int .i64 0, .slice none 0 0].toArray 59) = w1 at H1 o2
  have c1 := H1.out.q1 (List.mem_cons_of_mem _ List.mem_cons_self) HQ.out
  have c2 := H1.out.q2 (List.mem_cons_of_mem _ List.mem_cons_self) HQ.out
  have c3 := H1.out.q3 (List.mem_cons_of_mem _ List.mem_cons_self) HQ.out
  have o3 := o2.out
  have hl1 := lookS (H1.out.drew.2.2.2.2.2.2.1.2.1) hkey
  rw [hhas] at hl1
  have c3d : w1.drew.cell? ⟨P, i * 4 + 3, none⟩ = some (.map (some b)) := c3
  have o3d : w1.drew.cell? ⟨w.heap.size, 2, none⟩ = some (.string tx) := o3
  go_enter Tryz.func112, Tryz.ntmps112
  go_wp2
  go_region
  have H2 := hid H1.out.drew
  have o4 := hid (show (w1.drew).cell? ⟨w.heap.size, 2, none⟩ = some (.string tx) from o2.out)
  clear H1 o2 o3 c1 c2 c3 hl1 hW c3d o3d
  generalize w1.drew = w2 at H2 o4 ⊢
  have c1 := H2.out.q1 mem2 HQ.out
  have c2 := H2.out.q2 mem2 HQ.out
  have c3 := H2.out.q3 mem2 HQ.out
  have hlm := (H2.out.2.2.2.2.2.2.1.2.1 : w2.ownsMap Tryz.prog 9 rE b nb D).len Tryz.und66
  have e4 : ((Maps.size D : Int) == 4) = false := by rw [beq_eq_false_iff_ne]; omega
  go_wp2_with fail
  refine (end_q (i := i) c1 c2 hf0 (by omega)).mono ?_
  rintro e w3 ⟨rfl, nq2, hw⟩
  have H3 := hid (show All _ w3 from by rw [hw]; exact H2.out.drewN nq2)
  have o5 := hid (show w3.cell? ⟨w.heap.size, 2, none⟩ = some (.string tx) from by rw [hw]; exact o4.out)
  clear hw H2 o4 c1 c2 c3 hlm
  have eE : (first == first + ((items.length + 1 : Nat) : Int)) = false := by rw [beq_eq_false_iff_ne]; omega
  have c3 := H3.out.q3 mem2 HQ.out
  have d3 : w3.drew.cell? ⟨P, i * 4 + 3, none⟩ = some (.map (some b)) := c3
  have o6 := o5.out
  have o7 : w3.drew.cell? ⟨w.heap.size, 2, none⟩ = some (.string tx) := o6
  have hwf : (Lit.int .i64 (first + 1)).wf = true := WalkArith.wf_i64 (by omega)
  obtain ⟨w4, hup, ho4, hg4⟩ := World.ownsMap.update (H3.out.drew.2.2.2.2.2.2.1.2.1 : w3.drew.ownsMap Tryz.prog 9 rE b nb D) lawS Tryz.und66 (by unfold maxLen; omega) (val := .int .i64 (first + 1)) hkey (plainElem_int Tryz.underlying3 hwf)
  have H4 := hid (((H3.out.drew).perm (ds := mapC b nb D :: blkC (w.heap.size + 1) [.int .i64 0, .int .i64 0, .slice none 0 0] 59 :: blkC P (flat qs) 74 :: ownC 9 (.slice ao (items.length + 1) c) (txtV (item :: items)) :: cs) (List.perm_middle (l₁ := [blkC (w.heap.size + 1) [.int .i64 0, .int .i64 0, .slice none 0 0] 59, blkC P (flat qs) 74, ownC 9 (.slice ao (items.length + 1) c) (txtV (item :: items))]))).mapTurn hg4 ho4)
  clear ho4 hg4 H3 o5
  go_wp2
  go_region
  clear c3 d3 o6 o7 hup
  have H5 := hid (H4.out.perm (ds := blkC (w.heap.size + 1) [.int .i64 0, .int .i64 0, .slice none 0 0] 59 :: blkC P (flat qs) 74 :: ownC 9 (.slice ao (items.length + 1) c) (txtV (item :: items)) :: mapC b (nb + 1) (D.put (.string tx.data.toList) (.lit (.int .i64 (first + 1)))) :: cs) (List.perm_middle (l₁ := [blkC (w.heap.size + 1) [.int .i64 0, .int .i64 0, .slice none 0 0] 59, blkC P (flat qs) 74, ownC 9 (.slice ao (items.length + 1) c) (txtV (item :: items))])).symm)
  clear H4
  have row := (H5.out.2.2.2.2.1.2.1 : w4.ownsRow 0 9 1 (.slice ao (items.length + 1) c) (txtV (item :: items)).length (txtV (item :: items)))
  obtain ⟨g, ea, hc0, _⟩ := owns_at row (k := 0) (u := .string item) rfl
  have hg := H5.out.2.2.2.2.1.2.2 g (by rw [ea]; simp [ownC, Value.ownBlock])
  have hP : P < w4.heap.size := (H5.out.mem mem2).2.2 P (by simp [blkC])
  have hR : w.heap.size + 1 < w4.heap.size := (H5.out.mem List.mem_cons_self).2.2 _ (by simp [blkC])
  subst ea
  have c1 : w4.drew.cell? ⟨P, i * 4 + 1, none⟩ = some (.int .i64 first) := H5.out.q1 mem2 HQ.out
  have c2 : w4.drew.cell? ⟨P, i * 4 + 2, none⟩ = some (.slice (some ⟨g, 0, none⟩) (items.length + 1) c) := H5.out.q2 mem2 HQ.out
  have hc0 : w4.drew.cell? ⟨g, 0, none⟩ = some (.string item) := hc0
  have r0 : w4.drew.cell? ⟨w.heap.size + 1, 0, none⟩ = some (.int .i64 0) := H5.out.r0
  have r1 : w4.drew.cell? ⟨w.heap.size + 1, 1, none⟩ = some (.int .i64 0) := H5.out.r1
  have r2 : w4.drew.cell? ⟨w.heap.size + 1, 2, none⟩ = some (.slice none 0 0) := H5.out.r2
  have g0 : w4.drew.frozen? ⟨w.heap.size + 1, 0, none⟩ = false := H5.out.rf 0
  have g1 : w4.drew.frozen? ⟨w.heap.size + 1, 1, none⟩ = false := H5.out.rf 1
  have g2 : w4.drew.frozen? ⟨w.heap.size + 1, 2, none⟩ = false := H5.out.rf 2
  clear row
  have R0 : w4.cell? ⟨w.heap.size + 1, 0, none⟩ = some (.int .i64 0) := r0
  have R1 : w4.cell? ⟨w.heap.size + 1, 1, none⟩ = some (.int .i64 0) := r1
  have R2 : w4.cell? ⟨w.heap.size + 1, 2, none⟩ = some (.slice none 0 0) := r2
  have G0 : w4.frozen? ⟨w.heap.size + 1, 0, none⟩ = false := g0
  have G1 : w4.frozen? ⟨w.heap.size + 1, 1, none⟩ = false := g1
  have G2 : w4.frozen? ⟨w.heap.size + 1, 2, none⟩ = false := g2
  have C1 : w4.cell? ⟨P, i * 4 + 1, none⟩ = some (.int .i64 first) := c1
  have C2 : w4.cell? ⟨P, i * 4 + 2, none⟩ = some (.slice (some ⟨g, 0, none⟩) (items.length + 1) c) := c2
  have C0 : w4.cell? ⟨g, 0, none⟩ = some (.string item) := hc0
  have A7 := hid ((H5.out.setR (.int .i64 0) (.int .i64 first) (.slice (some ⟨w4.heap.size, 0, none⟩) 1 1)).addOne item).drew
  have hsz4 : (((w4.setCell ⟨w.heap.size + 1, 0, none⟩ (.int .i64 0)).setCell ⟨w.heap.size + 1, 1, none⟩ (.int .i64 first)).setCell ⟨w.heap.size + 1, 2, none⟩ (.slice (some ⟨w4.heap.size, 0, none⟩) 1 1)).heap.size = w4.heap.size := by simp [World.setCell]
  rw [hsz4] at A7
  have A7 := hid A7
  clear hsz4
  go_wp2
  go_region
  generalize ((((w4.setCell ⟨w.heap.size + 1, 0, none⟩ (.int .i64 0)).setCell ⟨w.heap.size + 1, 1, none⟩ (.int .i64 first)).setCell ⟨w.heap.size + 1, 2, none⟩ (.slice (some ⟨w4.heap.size, 0, none⟩) 1 1)).alloc (.cells #[.string item] 9)).drew = w5 at A7 ⊢
  clear r0 r1 r2 g0 g1 g2 R0 R1 R2 G0 G1 G2 C0 C1 C2 c1 c2 hc0
  have A8 := hid (A7.out.swap)
  have r0 := A8.out.r0
  have r1 := A8.out.r1
  have r2 := A8.out.r2
  go_wp2
  refine bodyPost_ret (v := .tuple #[resV 0 first (.slice (some ⟨w4.heap.size, 0, none⟩) 1 1), .int .i64 i]) (by rw [results_cell_tmp rfl]; go_simp) rfl ?_
  refine ⟨_, rfl, ?_⟩
  exact A8.out.tail.perm (List.perm_middle (l₁ := [blkC P (flat qs) 74, ownC 9 (.slice (some ⟨g, 0, none⟩) (items.length + 1) c) (txtV (item :: items)), mapC b (nb + 1) (D.put (.string tx.data.toList) (.lit (.int .i64 (first + 1))))])).symm
end Go.Proofs.YtkcepkehgkkkbabGreatDoor

namespace Go.Proofs.YtkcepkehgkkkbabGreatDoor
open Go.RowKit
set_option linter.unusedVariables false

set_option maxHeartbeats 1600000 in
set_option maxRecDepth 1000000 in
theorem make_there {P : Nat} {qs : List Qv} {cs : List Comp} {w : World} (h : All (blkC P (flat qs) 74 :: cs) w) (h8 : qs.length = 8) {at' : Int} (ha : at' ≠ -1) (k : Int) (nm tx : ByteArray) (n m : Int) :
    Calls Tryz.prog 108 #[.pointer (some ⟨P, 0, none⟩), .int .i64 at', opV k nm tx n m] w fun e w' => e = .returned (.tuple #[resV 2 0 (.slice none 0 0), .int .i64 (-1)]) ∧ All (blkC P (flat qs) 74 :: cs) w' := by
  have hsz : (w.alloc (opB k nm tx n m)).heap.size = w.heap.size + 1 := by simp
  have H1 := hid (((h.alloc (opB k nm tx n m)).addBlk [.int .i64 0, .int .i64 0, .slice none 0 0] 59))
  rw [hsz] at H1
  clear hsz
  have ea : (at' != -1) = true := by simpa using ha
  clear h ha
  go_enter Tryz.func108, Tryz.ntmps108
  go_wp2_with fail
  refine (find_any (H1.out.blk mem2) h8 ⟨#[]⟩).mono ?_
  rintro e w1 ⟨rfl, hw⟩
  have H2 := hid (show All (blkC (w.heap.size + 1) [.int .i64 0, .int .i64 0, .slice none 0 0] 59 :: blkC P (flat qs) 74 :: cs) w1 from by rw [hw]; exact H1.out)
  clear hw H1
  have r0 := H2.out.r0
  have r1 := H2.out.r1
  have r2 := H2.out.r2
  have g0 := H2.out.rf 0
  have g1 := H2.out.rf 1
  have g2 := H2.out.rf 2
  have AE := hid (H2.out.setR (.int .i64 2) (.int .i64 0) (.slice none 0 0))
  clear H2 
  go_wp2
  generalize (((w1.setCell ⟨w.heap.size + 1, 0, none⟩ (.int .i64 2)).setCell ⟨w.heap.size + 1, 1, none⟩ (.int .i64 0)).setCell ⟨w.heap.size + 1, 2, none⟩ (.slice none 0 0)) = we at AE ⊢
  clear r0 r1 r2
  have r0 := AE.out.r0
  have r1 := AE.out.r1
  have r2 := AE.out.r2
  refine bodyPost_ret (v := .tuple #[resV 2 0 (.slice none 0 0), .int .i64 (-1)]) (by rw [results_cell_tmp rfl]; go_simp) rfl ?_
  exact ⟨rfl, AE.out.tail⟩

set_option maxHeartbeats 1600000 in
set_option maxRecDepth 1000000 in
theorem make_full {P : Nat} {qs : List Qv} {cs : List Comp} {w : World} (h : All (blkC P (flat qs) 74 :: cs) w) (h8 : qs.length = 8) (hf : findN qs ⟨#[]⟩ = -1) (k : Int) (nm tx : ByteArray) (n m : Int) :
    Calls Tryz.prog 108 #[.pointer (some ⟨P, 0, none⟩), .int .i64 (-1), opV k nm tx n m] w fun e w' => e = .returned (.tuple #[resV 3 0 (.slice none 0 0), .int .i64 (-1)]) ∧ All (blkC P (flat qs) 74 :: cs) w' := by
  have hsz : (w.alloc (opB k nm tx n m)).heap.size = w.heap.size + 1 := by simp
  have H1 := hid (((h.alloc (opB k nm tx n m)).addBlk [.int .i64 0, .int .i64 0, .slice none 0 0] 59))
  rw [hsz] at H1
  clear hsz
  have HF := hid hf
  clear h hf
  go_enter Tryz.func108, Tryz.ntmps108
  go_wp2_with fail
  refine (find_any (H1.out.blk mem2) h8 ⟨#[]⟩).mono ?_
  rw [HF.out]
  rintro e w1 ⟨rfl, hw⟩
  have H2 := hid (show All (blkC (w.heap.size + 1) [.int .i64 0, .int .i64 0, .slice none 0 0] 59 :: blkC P (flat qs) 74 :: cs) w1 from by rw [hw]; exact H1.out)
  clear hw H1
  have r0 := H2.out.r0
  have r1 := H2.out.r1
  have r2 := H2.out.r2
  have g0 := H2.out.rf 0
  have g1 := H2.out.rf 1
  have g2 := H2.out.rf 2
  have AE := hid (H2.out.setR (.int .i64 3) (.int .i64 0) (.slice none 0 0))
  clear H2 
  go_wp2
  generalize (((w1.setCell ⟨w.heap.size + 1, 0, none⟩ (.int .i64 3)).setCell ⟨w.heap.size + 1, 1, none⟩ (.int .i64 0)).setCell ⟨w.heap.size + 1, 2, none⟩ (.slice none 0 0)) = we at AE ⊢
  clear r0 r1 r2
  have r0 := AE.out.r0
  have r1 := AE.out.r1
  have r2 := AE.out.r2
  refine bodyPost_ret (v := .tuple #[resV 3 0 (.slice none 0 0), .int .i64 (-1)]) (by rw [results_cell_tmp rfl]; go_simp) rfl ?_
  exact ⟨rfl, AE.out.tail⟩

set_option maxHeartbeats 1600000 in
set_option maxRecDepth 1000000 in
theorem drop_any {P : Nat} {qs : List Qv} {cs : List Comp} {w : World} (h : All (blkC P (flat qs) 74 :: cs) w) (h8 : qs.length = 8) {i : Nat} {q : Qv} (hq : qs[i]? = some q) (k : Int) (nm tx : ByteArray) (n m : Int) :
    Calls Tryz.prog 109 #[.pointer (some ⟨P, 0, none⟩), .int .i64 i, opV k nm tx n m] w fun e w' => e = .returned (.tuple #[resV 0 0 (.slice none 0 0), .int .i64 i]) ∧ All (blkC P (flat (qs.set i noQ)) 74 :: cs) w' := by
  have hi8 : i < 8 := by have := (List.getElem?_eq_some_iff.1 hq).1; omega
  have hsz : (w.alloc (opB k nm tx n m)).heap.size = w.heap.size + 1 := by simp
  have H1 := hid (((h.alloc (opB k nm tx n m)).addBlk [.int .i64 0, .int .i64 0, .slice none 0 0] 59))
  rw [hsz] at H1
  clear hsz
  have i1 : (0 : Int) ≤ (i : Int) := by omega
  have i2 : (i : Int) < 8 := by omega
  have i3 : ¬ (i : Int) < 0 := by omega
  have F := H1.out.four mem2 hq
  have s0 := F.c0
  have s1 := F.c1
  have s2 := F.c2
  have s3 := F.c3
  have f0 := F.f (i * 4)
  have f1 := F.f (i * 4 + 1)
  have f2 := F.f (i * 4 + 2)
  have f3 := F.f (i * 4 + 3)
  have A2 := hid ((H1.out.swap.setQ hq noQ).swap)
  have r0 := A2.out.r0
  have r1 := A2.out.r1
  have r2 := A2.out.r2
  have g0 := A2.out.rf 0
  have g1 := A2.out.rf 1
  have g2 := A2.out.rf 2
  have AE := hid (A2.out.setR (.int .i64 0) (.int .i64 0) (.slice none 0 0))
  simp only at A2 AE r0 r1 r2 g0 g1 g2
  clear h hq F H1 A2
  generalize hW : (w.alloc (opB k nm tx n m)).alloc (.cells [Value.int .i64 0, .int .i64 0, .slice none 0 0].toArray 59) = w1 at *
  go_enter Tryz.func109, Tryz.ntmps109
  go_wp2
  generalize (((((((w1.setCell ⟨P, i * 4, none⟩ (.string ⟨#[]⟩)).setCell ⟨P, i * 4 + 1, none⟩ (.int .i64 0)).setCell ⟨P, i * 4 + 2, none⟩ (.slice none 0 0)).setCell ⟨P, i * 4 + 3, none⟩ (.map none)).setCell ⟨w.heap.size + 1, 0, none⟩ (.int .i64 0)).setCell ⟨w.heap.size + 1, 1, none⟩ (.int .i64 0)).setCell ⟨w.heap.size + 1, 2, none⟩ (.slice none 0 0)) = we at AE ⊢
  clear r0 r1 r2
  have r0 := AE.out.r0
  have r1 := AE.out.r1
  have r2 := AE.out.r2
  refine bodyPost_ret (v := .tuple #[resV 0 0 (.slice none 0 0), .int .i64 i]) (by rw [results_cell_tmp rfl]; go_simp) rfl ?_
  exact ⟨rfl, AE.out.tail⟩

set_option maxHeartbeats 1600000 in
set_option maxRecDepth 1000000 in
theorem count_any {P : Nat} {qs : List Qv} {cs : List Comp} {w : World} (h : All (blkC P (flat qs) 74 :: cs) w) (h8 : qs.length = 8) {i : Nat} {nm0 : ByteArray} {first : Int} {ao : Option Addr} {len c : Nat} {gv : Value} (hq : qs[i]? = some ⟨nm0, first, .slice ao len c, gv⟩) (k : Int) (nm tx : ByteArray) (n m : Int) :
    Calls Tryz.prog 114 #[.pointer (some ⟨P, 0, none⟩), .int .i64 i, opV k nm tx n m] w fun e w' => e = .returned (.tuple #[resV 0 len (.slice none 0 0), .int .i64 (-1)]) ∧ All (blkC P (flat qs) 74 :: cs) w' := by
  have hi8 : i < 8 := by have := (List.getElem?_eq_some_iff.1 hq).1; omega
  have hsz : (w.alloc (opB k nm tx n m)).heap.size = w.heap.size + 1 := by simp
  have H1 := hid (((h.alloc (opB k nm tx n m)).addBlk [.int .i64 0, .int .i64 0, .slice none 0 0] 59))
  rw [hsz] at H1
  clear hsz
  have i1 : (0 : Int) ≤ (i : Int) := by omega
  have i2 : (i : Int) < 8 := by omega
  have i3 : ¬ (i : Int) < 0 := by omega
  have s2 := H1.out.q2 mem2 hq
  clear h hq
  generalize hW : (w.alloc (opB k nm tx n m)).alloc (.cells [Value.int .i64 0, .int .i64 0, .slice none 0 0].toArray 59) = w1 at *
  go_enter Tryz.func114, Tryz.ntmps114
  have r0 := H1.out.r0
  have r1 := H1.out.r1
  have r2 := H1.out.r2
  have g0 := H1.out.rf 0
  have g1 := H1.out.rf 1
  have g2 := H1.out.rf 2
  have AE := hid (H1.out.setR (.int .i64 0) (.int .i64 len) (.slice none 0 0))
  clear H1 
  go_wp2
  generalize (((w1.setCell ⟨w.heap.size + 1, 0, none⟩ (.int .i64 0)).setCell ⟨w.heap.size + 1, 1, none⟩ (.int .i64 len)).setCell ⟨w.heap.size + 1, 2, none⟩ (.slice none 0 0)) = we at AE ⊢
  clear r0 r1 r2
  have r0 := AE.out.r0
  have r1 := AE.out.r1
  have r2 := AE.out.r2
  refine bodyPost_ret (v := .tuple #[resV 0 len (.slice none 0 0), .int .i64 (-1)]) (by rw [results_cell_tmp rfl]; go_simp) rfl ?_
  exact ⟨rfl, AE.out.tail⟩


set_option maxHeartbeats 1600000 in
set_option maxRecDepth 1000000 in
theorem push_many {P : Nat} {qs : List Qv} {cs : List Comp} {w : World} (h : All (blkC P (flat qs) 74 :: cs) w) (h8 : qs.length = 8) {i : Nat} {nm0 : ByteArray} {first : Int} {ao : Option Addr} {len c : Nat} {gv : Value} (hq : qs[i]? = some ⟨nm0, first, .slice ao len c, gv⟩) (hl : len = 32) (hf0 : 0 ≤ first) (hf1 : first + len ≤ 1099511627776) (k : Int) (nm tx : ByteArray) (n m : Int) :
    Calls Tryz.prog 110 #[.pointer (some ⟨P, 0, none⟩), .int .i64 i, opV k nm tx n m] w fun e w' => e = .returned (.tuple #[resV 3 0 (.slice none 0 0), .int .i64 (-1)]) ∧ All (blkC P (flat qs) 74 :: cs) w' := by
  have hi8 : i < 8 := by have := (List.getElem?_eq_some_iff.1 hq).1; omega
  have hsz : (w.alloc (opB k nm tx n m)).heap.size = w.heap.size + 1 := by simp
  have H1 := hid (((h.alloc (opB k nm tx n m)).addBlk [.int .i64 0, .int .i64 0, .slice none 0 0] 59))
  rw [hsz] at H1
  clear hsz
  have i1 : (0 : Int) ≤ (i : Int) := by omega
  have i2 : (i : Int) < 8 := by omega
  have i3 : ¬ (i : Int) < 0 := by omega
  have HQ := hid hq
  have e32 : ((len : Int) == 32) = true := by rw [hl]; rfl
  clear hl
  clear h hq
  go_enter Tryz.func110, Tryz.ntmps110
  go_wp2_with fail
  refine (end_q (i := i) (H1.out.q1 mem2 HQ.out) (H1.out.q2 mem2 HQ.out) hf0 (by simp only; omega)).mono ?_
  rintro e w1 ⟨rfl, nq, hw⟩
  have H2 := hid (show All (blkC (w.heap.size + 1) [.int .i64 0, .int .i64 0, .slice none 0 0] 59 :: blkC P (flat qs) 74 :: cs) w1 from by rw [hw]; exact H1.out.drewN nq)
  clear hw H1
  have s2 := H2.out.q2 mem2 HQ.out
  clear HQ
  have r0 := H2.out.r0
  have r1 := H2.out.r1
  have r2 := H2.out.r2
  have g0 := H2.out.rf 0
  have g1 := H2.out.rf 1
  have g2 := H2.out.rf 2
  have AE := hid (H2.out.setR (.int .i64 3) (.int .i64 0) (.slice none 0 0))
  clear H2 
  go_wp2
  generalize (((w1.setCell ⟨w.heap.size + 1, 0, none⟩ (.int .i64 3)).setCell ⟨w.heap.size + 1, 1, none⟩ (.int .i64 0)).setCell ⟨w.heap.size + 1, 2, none⟩ (.slice none 0 0)) = we at AE ⊢
  clear r0 r1 r2
  have r0 := AE.out.r0
  have r1 := AE.out.r1
  have r2 := AE.out.r2
  refine bodyPost_ret (v := .tuple #[resV 3 0 (.slice none 0 0), .int .i64 (-1)]) (by rw [results_cell_tmp rfl]; go_simp) rfl ?_
  exact ⟨rfl, AE.out.tail⟩


set_option maxHeartbeats 1600000 in
set_option maxRecDepth 1000000 in
theorem push_last {P : Nat} {qs : List Qv} {cs : List Comp} {w : World} (h : All (blkC P (flat qs) 74 :: cs) w) (h8 : qs.length = 8) {i : Nat} {nm0 : ByteArray} {first : Int} {ao : Option Addr} {len c : Nat} {gv : Value} (hq : qs[i]? = some ⟨nm0, first, .slice ao len c, gv⟩) (hl : len ≠ 32) (hm : first + len = 1099511627776) (hf0 : 0 ≤ first) (hf1 : first + len ≤ 1099511627776) (k : Int) (nm tx : ByteArray) (n m : Int) :
    Calls Tryz.prog 110 #[.pointer (some ⟨P, 0, none⟩), .int .i64 i, opV k nm tx n m] w fun e w' => e = .returned (.tuple #[resV 3 0 (.slice none 0 0), .int .i64 (-1)]) ∧ All (blkC P (flat qs) 74 :: cs) w' := by
  have hi8 : i < 8 := by have := (List.getElem?_eq_some_iff.1 hq).1; omega
  have hsz : (w.alloc (opB k nm tx n m)).heap.size = w.heap.size + 1 := by simp
  have H1 := hid (((h.alloc (opB k nm tx n m)).addBlk [.int .i64 0, .int .i64 0, .slice none 0 0] 59))
  rw [hsz] at H1
  clear hsz
  have i1 : (0 : Int) ≤ (i : Int) := by omega
  have i2 : (i : Int) < 8 := by omega
  have i3 : ¬ (i : Int) < 0 := by omega
  have HQ := hid hq
  have e32 : ((len : Int) == 32) = false := by rw [beq_eq_false_iff_ne]; omega
  have eM : ((first + (len : Int)) == 1099511627776) = true := by rw [hm]; rfl
  clear hl hm
  clear h hq
  go_enter Tryz.func110, Tryz.ntmps110
  go_wp2_with fail
  refine (end_q (i := i) (H1.out.q1 mem2 HQ.out) (H1.out.q2 mem2 HQ.out) hf0 (by simp only; omega)).mono ?_
  rintro e w1 ⟨rfl, nq, hw⟩
  have H2 := hid (show All (blkC (w.heap.size + 1) [.int .i64 0, .int .i64 0, .slice none 0 0] 59 :: blkC P (flat qs) 74 :: cs) w1 from by rw [hw]; exact H1.out.drewN nq)
  clear hw H1
  have s2 := H2.out.q2 mem2 HQ.out
  clear HQ
  have r0 := H2.out.r0
  have r1 := H2.out.r1
  have r2 := H2.out.r2
  have g0 := H2.out.rf 0
  have g1 := H2.out.rf 1
  have g2 := H2.out.rf 2
  have AE := hid (H2.out.setR (.int .i64 3) (.int .i64 0) (.slice none 0 0))
  clear H2 
  go_wp2
  generalize (((w1.setCell ⟨w.heap.size + 1, 0, none⟩ (.int .i64 3)).setCell ⟨w.heap.size + 1, 1, none⟩ (.int .i64 0)).setCell ⟨w.heap.size + 1, 2, none⟩ (.slice none 0 0)) = we at AE ⊢
  clear r0 r1 r2
  have r0 := AE.out.r0
  have r1 := AE.out.r1
  have r2 := AE.out.r2
  refine bodyPost_ret (v := .tuple #[resV 3 0 (.slice none 0 0), .int .i64 (-1)]) (by rw [results_cell_tmp rfl]; go_simp) rfl ?_
  exact ⟨rfl, AE.out.tail⟩

end Go.Proofs.YtkcepkehgkkkbabGreatDoor

namespace Go.Proofs.YtkcepkehgkkkbabGreatDoor
open Go.RowKit
open Go.Maps (Keyed)
set_option linter.unusedVariables false

set_option maxHeartbeats 1600000 in
set_option maxRecDepth 1000000 in
theorem take_full {P b nb : Nat} {qs : List Qv} {cs : List Comp} {w : World} {i : Nat} {nm0 : ByteArray} {first : Int} {ao : Option Addr} {len c : Nat} {D : DataW Unit} (h : All (blkC P (flat qs) 74 :: mapC b nb D :: cs) w) (h8 : qs.length = 8) (hq : qs[i]? = some ⟨nm0, first, .slice ao len c, .map (some b)⟩) (hf0 : 0 ≤ first) (hf1 : first + len ≤ 1099511627776) (k : Int) (nm tx : ByteArray) (n m : Int) (hs : tx.size ≤ maxLen) (hhas : Maps.has D (.string tx.data.toList) = false) (h4 : Maps.size D = 4) :
    Calls Tryz.prog 112 #[.pointer (some ⟨P, 0, none⟩), .int .i64 i, opV k nm tx n m] w fun e w' => e = .returned (.tuple #[resV 3 0 (.slice none 0 0), .int .i64 (-1)]) ∧ All (blkC P (flat qs) 74 :: mapC b nb D :: cs) w' := by
  have hi8 : i < 8 := by have := (List.getElem?_eq_some_iff.1 hq).1; omega
  have hsz : (w.alloc (opB k nm tx n m)).heap.size = w.heap.size + 1 := by simp
  have H1 := hid (((h.alloc (opB k nm tx n m)).addBlk [.int .i64 0, .int .i64 0, .slice none 0 0] 59))
  rw [hsz] at H1
  clear hsz
  have HO := heap_alloc_new w (opB k nm tx n m)
  have o2 := hid (show ((w.alloc (opB k nm tx n m)).alloc (.cells [Value.int .i64 0, .int .i64 0, .slice none 0 0].toArray 59)).cell? ⟨w.heap.size, 2, none⟩ = some (.string tx) from cell_under (ba _ _) (by simp) (by rw [cell_at HO]; rfl))
  have HQ := hid hq
  have i1 : (0 : Int) ≤ (i : Int) := by omega
  have i2 : (i : Int) < 8 := by omega
  have i3 : ¬ (i : Int) < 0 := by omega
  have hkey := WideMaps.keyOf_string_mk Tryz.underlying9 hs
  clear h hq HO
  generalize hW : (w.alloc (opB k nm tx n m)).alloc (.cells [Value.int .i64 0, .int .i64 0, .slice none 0 0].toArray 59) = w1 at H1 o2
  have c1 := H1.out.q1 mem2 HQ.out
  have c2 := H1.out.q2 mem2 HQ.out
  have c3 := H1.out.q3 mem2 HQ.out
  have o3 := o2.out
  have hl1 := lookS (H1.out.drew.2.2.2.2.1.2.1) hkey
  rw [hhas] at hl1
  have c3d : w1.drew.cell? ⟨P, i * 4 + 3, none⟩ = some (.map (some b)) := c3
  have o3d : w1.drew.cell? ⟨w.heap.size, 2, none⟩ = some (.string tx) := o3
  go_enter Tryz.func112, Tryz.ntmps112
  go_wp2
  go_region
  have H2 := hid H1.out.drew
  have o4 := hid (show (w1.drew).cell? ⟨w.heap.size, 2, none⟩ = some (.string tx) from o2.out)
  clear H1 o2 o3 c1 c2 c3 hl1 hW c3d o3d
  generalize w1.drew = w2 at H2 o4 ⊢
  have c1 := H2.out.q1 mem2 HQ.out
  have c2 := H2.out.q2 mem2 HQ.out
  have c3 := H2.out.q3 mem2 HQ.out
  have hlm := (H2.out.2.2.2.2.1.2.1 : w2.ownsMap Tryz.prog 9 rE b nb D).len Tryz.und66
  have e4 : ((Maps.size D : Int) == 4) = true := by rw [h4]; rfl
  clear h4
  have r0 := H2.out.r0
  have r1 := H2.out.r1
  have r2 := H2.out.r2
  have g0 := H2.out.rf 0
  have g1 := H2.out.rf 1
  have g2 := H2.out.rf 2
  have AE := hid (H2.out.setR (.int .i64 3) (.int .i64 0) (.slice none 0 0))
  clear H2 
  go_wp2
  generalize (((w2.setCell ⟨w.heap.size + 1, 0, none⟩ (.int .i64 3)).setCell ⟨w.heap.size + 1, 1, none⟩ (.int .i64 0)).setCell ⟨w.heap.size + 1, 2, none⟩ (.slice none 0 0)) = we at AE ⊢
  clear r0 r1 r2
  have r0 := AE.out.r0
  have r1 := AE.out.r1
  have r2 := AE.out.r2
  refine bodyPost_ret (v := .tuple #[resV 3 0 (.slice none 0 0), .int .i64 (-1)]) (by rw [results_cell_tmp rfl]; go_simp) rfl ?_
  exact ⟨rfl, AE.out.tail⟩

set_option maxHeartbeats 1600000 in
set_option maxRecDepth 1000000 in
theorem take_bare {P b nb : Nat} {qs : List Qv} {cs : List Comp} {w : World} {i : Nat} {nm0 : ByteArray} {first : Int} {ao : Option Addr} {len c : Nat} {D : DataW Unit} (h : All (blkC P (flat qs) 74 :: mapC b nb D :: cs) w) (h8 : qs.length = 8) (hq : qs[i]? = some ⟨nm0, first, .slice ao len c, .map (some b)⟩) (hf0 : 0 ≤ first) (hf1 : first + len ≤ 1099511627776) (k : Int) (nm tx : ByteArray) (n m : Int) (hs : tx.size ≤ maxLen) (hhas : Maps.has D (.string tx.data.toList) = false) (h4 : Maps.size D ≠ 4) (h0 : len = 0) :
    Calls Tryz.prog 112 #[.pointer (some ⟨P, 0, none⟩), .int .i64 i, opV k nm tx n m] w fun e w' => e = .returned (.tuple #[resV 4 0 (.slice none 0 0), .int .i64 (-1)]) ∧ All (blkC P (flat qs) 74 :: mapC b nb D :: cs) w' := by
  have hi8 : i < 8 := by have := (List.getElem?_eq_some_iff.1 hq).1; omega
  have hsz : (w.alloc (opB k nm tx n m)).heap.size = w.heap.size + 1 := by simp
  have H1 := hid (((h.alloc (opB k nm tx n m)).addBlk [.int .i64 0, .int .i64 0, .slice none 0 0] 59))
  rw [hsz] at H1
  clear hsz
  have HO := heap_alloc_new w (opB k nm tx n m)
  have o2 := hid (show ((w.alloc (opB k nm tx n m)).alloc (.cells [Value.int .i64 0, .int .i64 0, .slice none 0 0].toArray 59)).cell? ⟨w.heap.size, 2, none⟩ = some (.string tx) from cell_under (ba _ _) (by simp) (by rw [cell_at HO]; rfl))
  have HQ := hid hq
  have i1 : (0 : Int) ≤ (i : Int) := by omega
  have i2 : (i : Int) < 8 := by omega
  have i3 : ¬ (i : Int) < 0 := by omega
  have hkey := WideMaps.keyOf_string_mk Tryz.underlying9 hs
  clear h hq HO
  generalize hW : (w.alloc (opB k nm tx n m)).alloc (.cells [Value.int .i64 0, .int .i64 0, .slice none 0 0].toArray 59) = w1 at H1 o2
  have c1 := H1.out.q1 mem2 HQ.out
  have c2 := H1.out.q2 mem2 HQ.out
  have c3 := H1.out.q3 mem2 HQ.out
  have o3 := o2.out
  have hl1 := lookS (H1.out.drew.2.2.2.2.1.2.1) hkey
  rw [hhas] at hl1
  have c3d : w1.drew.cell? ⟨P, i * 4 + 3, none⟩ = some (.map (some b)) := c3
  have o3d : w1.drew.cell? ⟨w.heap.size, 2, none⟩ = some (.string tx) := o3
  go_enter Tryz.func112, Tryz.ntmps112
  go_wp2
  go_region
  have H2 := hid H1.out.drew
  have o4 := hid (show (w1.drew).cell? ⟨w.heap.size, 2, none⟩ = some (.string tx) from o2.out)
  clear H1 o2 o3 c1 c2 c3 hl1 hW c3d o3d
  generalize w1.drew = w2 at H2 o4 ⊢
  have c1 := H2.out.q1 mem2 HQ.out
  have c2 := H2.out.q2 mem2 HQ.out
  have c3 := H2.out.q3 mem2 HQ.out
  have hlm := (H2.out.2.2.2.2.1.2.1 : w2.ownsMap Tryz.prog 9 rE b nb D).len Tryz.und66
  have e4 : ((Maps.size D : Int) == 4) = false := by rw [beq_eq_false_iff_ne]; omega
  subst h0
  go_wp2_with fail
  refine (end_q (i := i) c1 c2 hf0 (by omega)).mono ?_
  rintro e w3 ⟨rfl, nq2, hw⟩
  have H3 := hid (show All (blkC (w.heap.size + 1) [.int .i64 0, .int .i64 0, .slice none 0 0] 59 :: blkC P (flat qs) 74 :: mapC b nb D :: cs) w3 from by rw [hw]; exact H2.out.drewN nq2)
  clear hw H2 o4 c1 c2 c3 hlm
  have eE : (first == first + ((0 : Nat) : Int)) = true := by simp
  have r0 := H3.out.r0
  have r1 := H3.out.r1
  have r2 := H3.out.r2
  have g0 := H3.out.rf 0
  have g1 := H3.out.rf 1
  have g2 := H3.out.rf 2
  have AE := hid (H3.out.setR (.int .i64 4) (.int .i64 0) (.slice none 0 0))
  clear H3 
  go_wp2
  generalize (((w3.setCell ⟨w.heap.size + 1, 0, none⟩ (.int .i64 4)).setCell ⟨w.heap.size + 1, 1, none⟩ (.int .i64 0)).setCell ⟨w.heap.size + 1, 2, none⟩ (.slice none 0 0)) = we at AE ⊢
  clear r0 r1 r2
  have r0 := AE.out.r0
  have r1 := AE.out.r1
  have r2 := AE.out.r2
  refine bodyPost_ret (v := .tuple #[resV 4 0 (.slice none 0 0), .int .i64 (-1)]) (by rw [results_cell_tmp rfl]; go_simp) rfl ?_
  exact ⟨rfl, AE.out.tail⟩

set_option maxHeartbeats 1600000 in
set_option maxRecDepth 1000000 in
theorem take_done {P b nb : Nat} {qs : List Qv} {cs : List Comp} {w : World} {i : Nat} {nm0 : ByteArray} {first : Int} {ao : Option Addr} {len c : Nat} {D : DataW Unit} (h : All (blkC P (flat qs) 74 :: mapC b nb D :: cs) w) (h8 : qs.length = 8) (hq : qs[i]? = some ⟨nm0, first, .slice ao len c, .map (some b)⟩) (hf0 : 0 ≤ first) (hf1 : first + len ≤ 1099511627776) (k : Int) (nm tx : ByteArray) (n m : Int) (hs : tx.size ≤ maxLen) (hhas : Maps.has D (.string tx.data.toList) = true) (hleft : leftD D (.string tx.data.toList) = first + len) :
    Calls Tryz.prog 112 #[.pointer (some ⟨P, 0, none⟩), .int .i64 i, opV k nm tx n m] w fun e w' => e = .returned (.tuple #[resV 4 0 (.slice none 0 0), .int .i64 (-1)]) ∧ All (blkC P (flat qs) 74 :: mapC b nb D :: cs) w' := by
  have hi8 : i < 8 := by have := (List.getElem?_eq_some_iff.1 hq).1; omega
  have hsz : (w.alloc (opB k nm tx n m)).heap.size = w.heap.size + 1 := by simp
  have H1 := hid (((h.alloc (opB k nm tx n m)).addBlk [.int .i64 0, .int .i64 0, .slice none 0 0] 59))
  rw [hsz] at H1
  clear hsz
  have HO := heap_alloc_new w (opB k nm tx n m)
  have o2 := hid (show ((w.alloc (opB k nm tx n m)).alloc (.cells [Value.int .i64 0, .int .i64 0, .slice none 0 0].toArray 59)).cell? ⟨w.heap.size, 2, none⟩ = some (.string tx) from cell_under (ba _ _) (by simp) (by rw [cell_at HO]; rfl))
  have HQ := hid hq
  have i1 : (0 : Int) ≤ (i : Int) := by omega
  have i2 : (i : Int) < 8 := by omega
  have i3 : ¬ (i : Int) < 0 := by omega
  have hkey := WideMaps.keyOf_string_mk Tryz.underlying9 hs
  clear h hq HO
  generalize hW : (w.alloc (opB k nm tx n m)).alloc (.cells [Value.int .i64 0, .int .i64 0, .slice none 0 0].toArray 59) = w1 at H1 o2
  have c1 := H1.out.q1 mem2 HQ.out
  have c2 := H1.out.q2 mem2 HQ.out
  have c3 := H1.out.q3 mem2 HQ.out
  have o3 := o2.out
  have hl1 := lookS (H1.out.drew.2.2.2.2.1.2.1) hkey
  rw [hhas, hleft] at hl1
  have c3d : w1.drew.cell? ⟨P, i * 4 + 3, none⟩ = some (.map (some b)) := c3
  have o3d : w1.drew.cell? ⟨w.heap.size, 2, none⟩ = some (.string tx) := o3
  go_enter Tryz.func112, Tryz.ntmps112
  go_wp2
  go_region
  have H2 := hid H1.out.drew
  have o4 := hid (show (w1.drew).cell? ⟨w.heap.size, 2, none⟩ = some (.string tx) from o2.out)
  clear H1 o2 o3 c1 c2 c3 hl1 hW c3d o3d
  generalize w1.drew = w2 at H2 o4 ⊢
  have c1 := H2.out.q1 mem2 HQ.out
  have c2 := H2.out.q2 mem2 HQ.out
  have c3 := H2.out.q3 mem2 HQ.out
  have hlm := (H2.out.2.2.2.2.1.2.1 : w2.ownsMap Tryz.prog 9 rE b nb D).len Tryz.und66
  go_wp2_with fail
  refine (end_q (i := i) c1 c2 hf0 (by omega)).mono ?_
  rintro e w3 ⟨rfl, nq2, hw⟩
  have H3 := hid (show All (blkC (w.heap.size + 1) [.int .i64 0, .int .i64 0, .slice none 0 0] 59 :: blkC P (flat qs) 74 :: mapC b nb D :: cs) w3 from by rw [hw]; exact H2.out.drewN nq2)
  clear hw H2 o4 c1 c2 c3 hlm hleft
  have eE : (first + (len : Int) == first + (len : Int)) = true := by simp
  have r0 := H3.out.r0
  have r1 := H3.out.r1
  have r2 := H3.out.r2
  have g0 := H3.out.rf 0
  have g1 := H3.out.rf 1
  have g2 := H3.out.rf 2
  have AE := hid (H3.out.setR (.int .i64 4) (.int .i64 0) (.slice none 0 0))
  clear H3 
  go_wp2
  generalize (((w3.setCell ⟨w.heap.size + 1, 0, none⟩ (.int .i64 4)).setCell ⟨w.heap.size + 1, 1, none⟩ (.int .i64 0)).setCell ⟨w.heap.size + 1, 2, none⟩ (.slice none 0 0)) = we at AE ⊢
  clear r0 r1 r2
  have r0 := AE.out.r0
  have r1 := AE.out.r1
  have r2 := AE.out.r2
  refine bodyPost_ret (v := .tuple #[resV 4 0 (.slice none 0 0), .int .i64 (-1)]) (by rw [results_cell_tmp rfl]; go_simp) rfl ?_
  exact ⟨rfl, AE.out.tail⟩


set_option maxHeartbeats 3200000 in
set_option maxRecDepth 1000000 in
theorem take_next {P b nb : Nat} {qs : List Qv} {cs : List Comp} {w : World} {i : Nat} {nm0 : ByteArray} {first : Int} {iv : Value} {D : DataW Unit} {items : List ByteArray} (h : All (blkC P (flat qs) 74 :: ownC 9 iv (txtV items) :: mapC b nb D :: cs) w) (h8 : qs.length = 8) (hq : qs[i]? = some ⟨nm0, first, iv, .map (some b)⟩) {d : Nat} {item : ByteArray} (hd : items[d]? = some item) (hl : items.length ≤ 32) (hf0 : 0 ≤ first) (hf1 : first + items.length ≤ 1099511627776) (k : Int) (nm tx : ByteArray) (n m : Int) (hs : tx.size ≤ maxLen) (hhas : Maps.has D (.string tx.data.toList) = true) (hleft : leftD D (.string tx.data.toList) = first + d) (hnb : nb < 1152921504606846976) :
    Calls Tryz.prog 112 #[.pointer (some ⟨P, 0, none⟩), .int .i64 i, opV k nm tx n m] w fun e w' => ∃ so, e = .returned (.tuple #[resV 0 (first + d) (.slice so 1 1), .int .i64 i]) ∧ All (blkC P (flat qs) 74 :: ownC 9 iv (txtV items) :: mapC b (nb + 1) (D.put (.string tx.data.toList) (.lit (.int .i64 (first + (d : Int) + 1)))) :: ownC 9 (.slice so 1 1) (txtV [item]) :: cs) w' := by
  have hrow : w.ownsRow 0 9 1 iv (txtV items).length (txtV items) := h.2.2.1.2.1
  obtain ⟨ao, c, eo⟩ := owns_form hrow
  rw [List.length_map] at eo
  subst eo
  have hdl : d < items.length := (List.getElem?_eq_some_iff.1 hd).1
  have HD := hid hd
  clear hrow hd
  have hi8 : i < 8 := by have := (List.getElem?_eq_some_iff.1 hq).1; omega
  have hsz : (w.alloc (opB k nm tx n m)).heap.size = w.heap.size + 1 := by simp
  have H1 := hid (((h.alloc (opB k nm tx n m)).addBlk [.int .i64 0, .int .i64 0, .slice none 0 0] 59))
  rw [hsz] at H1
  clear hsz
  have HO := heap_alloc_new w (opB k nm tx n m)
  have o2 := hid (show ((w.alloc (opB k nm tx n m)).alloc (.cells [Value.int .i64 0, .int .i64 0, .slice none 0 0].toArray 59)).cell? ⟨w.heap.size, 2, none⟩ = some (.string tx) from cell_under (ba _ _) (by simp) (by rw [cell_at HO]; rfl))
  have HQ := hid hq
  have i1 : (0 : Int) ≤ (i : Int) := by omega
  have i2 : (i : Int) < 8 := by omega
  have i3 : ¬ (i : Int) < 0 := by omega
  have hkey := WideMaps.keyOf_string_mk Tryz.underlying9 hs
  clear h hq HO
  generalize hW : (w.alloc (opB k nm tx n m)).alloc (.cells [Value.int .i64 0, .int .i64 0, .slice none 0 0].toArray 59) = w1 at H1 o2
  have c1 := H1.out.q1 mem2 HQ.out
  have c2 := H1.out.q2 mem2 HQ.out
  have c3 := H1.out.q3 mem2 HQ.out
  have o3 := o2.out
  have hl1 := lookS (H1.out.drew.2.2.2.2.2.2.1.2.1) hkey
  rw [hhas, hleft] at hl1
  have c3d : w1.drew.cell? ⟨P, i * 4 + 3, none⟩ = some (.map (some b)) := c3
  have o3d : w1.drew.cell? ⟨w.heap.size, 2, none⟩ = some (.string tx) := o3
  go_enter Tryz.func112, Tryz.ntmps112
  go_wp2
  go_region
  have H2 := hid H1.out.drew
  have o4 := hid (show (w1.drew).cell? ⟨w.heap.size, 2, none⟩ = some (.string tx) from o2.out)
  clear H1 o2 o3 c1 c2 c3 hl1 hW c3d o3d
  generalize w1.drew = w2 at H2 o4 ⊢
  have c1 := H2.out.q1 mem2 HQ.out
  have c2 := H2.out.q2 mem2 HQ.out
  have c3 := H2.out.q3 mem2 HQ.out
  have hlm := (H2.out.2.2.2.2.2.2.1.2.1 : w2.ownsMap Tryz.prog 9 rE b nb D).len Tryz.und66
  clear hleft
  go_wp2_with fail
  refine (end_q (i := i) c1 c2 hf0 (by omega)).mono ?_
  rintro e w3 ⟨rfl, nq2, hw⟩
  have H3 := hid (show All _ w3 from by rw [hw]; exact H2.out.drewN nq2)
  have o5 := hid (show w3.cell? ⟨w.heap.size, 2, none⟩ = some (.string tx) from by rw [hw]; exact o4.out)
  clear hw H2 o4 c1 c2 c3 hlm
  have eE : (first + (d : Int) == first + (items.length : Int)) = false := by rw [beq_eq_false_iff_ne]; omega
  have c3 := H3.out.q3 mem2 HQ.out
  have d3 : w3.drew.cell? ⟨P, i * 4 + 3, none⟩ = some (.map (some b)) := c3
  have o6 := o5.out
  have o7 : w3.drew.cell? ⟨w.heap.size, 2, none⟩ = some (.string tx) := o6
  have hwf : (Lit.int .i64 (first + (d : Int) + 1)).wf = true := WalkArith.wf_i64 (by omega)
  obtain ⟨w4, hup, ho4, hg4⟩ := World.ownsMap.update (H3.out.drew.2.2.2.2.2.2.1.2.1 : w3.drew.ownsMap Tryz.prog 9 rE b nb D) lawS Tryz.und66 (by unfold maxLen; omega) (val := .int .i64 (first + (d : Int) + 1)) hkey (plainElem_int Tryz.underlying3 hwf)
  have H4 := hid (((H3.out.drew).perm (ds := mapC b nb D :: blkC (w.heap.size + 1) [.int .i64 0, .int .i64 0, .slice none 0 0] 59 :: blkC P (flat qs) 74 :: ownC 9 (.slice ao items.length c) (txtV items) :: cs) (List.perm_middle (l₁ := [blkC (w.heap.size + 1) [.int .i64 0, .int .i64 0, .slice none 0 0] 59, blkC P (flat qs) 74, ownC 9 (.slice ao items.length c) (txtV items)]))).mapTurn hg4 ho4)
  clear ho4 hg4 H3 o5
  go_wp2
  go_region
  clear c3 d3 o6 o7 hup
  have H5 := hid (H4.out.perm (ds := blkC (w.heap.size + 1) [.int .i64 0, .int .i64 0, .slice none 0 0] 59 :: blkC P (flat qs) 74 :: ownC 9 (.slice ao items.length c) (txtV items) :: mapC b (nb + 1) (D.put (.string tx.data.toList) (.lit (.int .i64 (first + (d : Int) + 1)))) :: cs) (List.perm_middle (l₁ := [blkC (w.heap.size + 1) [.int .i64 0, .int .i64 0, .slice none 0 0] 59, blkC P (flat qs) 74, ownC 9 (.slice ao items.length c) (txtV items)])).symm)
  clear H4
  have row := (H5.out.2.2.2.2.1.2.1 : w4.ownsRow 0 9 1 (.slice ao items.length c) (txtV items).length (txtV items))
  obtain ⟨g, ea, hc0, _⟩ := owns_at row (k := d) (u := .string item) (by simp [HD.out])
  have hg := H5.out.2.2.2.2.1.2.2 g (by rw [ea]; simp [ownC, Value.ownBlock])
  have hP : P < w4.heap.size := (H5.out.mem mem2).2.2 P (by simp [blkC])
  have hR : w.heap.size + 1 < w4.heap.size := (H5.out.mem List.mem_cons_self).2.2 _ (by simp [blkC])
  subst ea
  have hsub : first + (d : Int) - first = (d : Int) := by omega
  have c1 : w4.drew.cell? ⟨P, i * 4 + 1, none⟩ = some (.int .i64 first) := H5.out.q1 mem2 HQ.out
  have c2 : w4.drew.cell? ⟨P, i * 4 + 2, none⟩ = some (.slice (some ⟨g, 0, none⟩) items.length c) := H5.out.q2 mem2 HQ.out
  have hc0 : w4.drew.cell? ⟨g, d, none⟩ = some (.string item) := hc0
  have r0 : w4.drew.cell? ⟨w.heap.size + 1, 0, none⟩ = some (.int .i64 0) := H5.out.r0
  have r1 : w4.drew.cell? ⟨w.heap.size + 1, 1, none⟩ = some (.int .i64 0) := H5.out.r1
  have r2 : w4.drew.cell? ⟨w.heap.size + 1, 2, none⟩ = some (.slice none 0 0) := H5.out.r2
  have g0 : w4.drew.frozen? ⟨w.heap.size + 1, 0, none⟩ = false := H5.out.rf 0
  have g1 : w4.drew.frozen? ⟨w.heap.size + 1, 1, none⟩ = false := H5.out.rf 1
  have g2 : w4.drew.frozen? ⟨w.heap.size + 1, 2, none⟩ = false := H5.out.rf 2
  clear row
  have R0 : w4.cell? ⟨w.heap.size + 1, 0, none⟩ = some (.int .i64 0) := r0
  have R1 : w4.cell? ⟨w.heap.size + 1, 1, none⟩ = some (.int .i64 0) := r1
  have R2 : w4.cell? ⟨w.heap.size + 1, 2, none⟩ = some (.slice none 0 0) := r2
  have G0 : w4.frozen? ⟨w.heap.size + 1, 0, none⟩ = false := g0
  have G1 : w4.frozen? ⟨w.heap.size + 1, 1, none⟩ = false := g1
  have G2 : w4.frozen? ⟨w.heap.size + 1, 2, none⟩ = false := g2
  have C1 : w4.cell? ⟨P, i * 4 + 1, none⟩ = some (.int .i64 first) := c1
  have C2 : w4.cell? ⟨P, i * 4 + 2, none⟩ = some (.slice (some ⟨g, 0, none⟩) items.length c) := c2
  have C0 : w4.cell? ⟨g, d, none⟩ = some (.string item) := hc0
  have A7 := hid ((H5.out.setR (.int .i64 0) (.int .i64 (first + (d : Int))) (.slice (some ⟨w4.heap.size, 0, none⟩) 1 1)).addOne item).drew
  have hsz4 : (((w4.setCell ⟨w.heap.size + 1, 0, none⟩ (.int .i64 0)).setCell ⟨w.heap.size + 1, 1, none⟩ (.int .i64 (first + (d : Int)))).setCell ⟨w.heap.size + 1, 2, none⟩ (.slice (some ⟨w4.heap.size, 0, none⟩) 1 1)).heap.size = w4.heap.size := by simp [World.setCell]
  rw [hsz4] at A7
  have A7 := hid A7
  clear hsz4
  go_wp2
  go_region
  generalize ((((w4.setCell ⟨w.heap.size + 1, 0, none⟩ (.int .i64 0)).setCell ⟨w.heap.size + 1, 1, none⟩ (.int .i64 (first + (d : Int)))).setCell ⟨w.heap.size + 1, 2, none⟩ (.slice (some ⟨w4.heap.size, 0, none⟩) 1 1)).alloc (.cells #[.string item] 9)).drew = w5 at A7 ⊢
  clear r0 r1 r2 g0 g1 g2 R0 R1 R2 G0 G1 G2 C0 C1 C2 c1 c2 hc0
  have A8 := hid (A7.out.swap)
  have r0 := A8.out.r0
  have r1 := A8.out.r1
  have r2 := A8.out.r2
  go_wp2
  refine bodyPost_ret (v := .tuple #[resV 0 (first + (d : Int)) (.slice (some ⟨w4.heap.size, 0, none⟩) 1 1), .int .i64 i]) (by rw [results_cell_tmp rfl]; go_simp) rfl ?_
  refine ⟨_, rfl, ?_⟩
  exact A8.out.tail.perm (List.perm_middle (l₁ := [blkC P (flat qs) 74, ownC 9 (.slice (some ⟨g, 0, none⟩) items.length c) (txtV items), mapC b (nb + 1) (D.put (.string tx.data.toList) (.lit (.int .i64 (first + (d : Int) + 1))))])).symm
end Go.Proofs.YtkcepkehgkkkbabGreatDoor
