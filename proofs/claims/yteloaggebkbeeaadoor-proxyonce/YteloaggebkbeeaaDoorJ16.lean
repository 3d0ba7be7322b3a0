import Derived.Test.YteloaggebkbeeaaDoorPx23
namespace Go.Proofs.YteloaggebkbeeaaDoor
open Go.RowKit
set_option linter.unusedVariables false

def txtV (l : List ByteArray) : List Value := l.map Value.string
theorem txtV_length (l : List ByteArray) : (txtV l).length = l.length := by simp [txtV]
theorem Tryd.inf9 : (Tryd.prog.info? 9).map (fun i => (i.zero, i.size, i.bytes)) = some (some (.string ⟨#[]⟩), 1, 16) := by kernel_rfl
theorem txtV_one (l : List ByteArray) : ∀ u ∈ txtV l, u.oneCell' = true := by
  intro u hu
  obtain ⟨_, _, rfl⟩ := List.mem_map.1 hu
  rfl

set_option maxHeartbeats 800000 in
set_option maxRecDepth 1000000 in
theorem tclone_some {w : World} (a : Addr) (c : Nat) (l : List ByteArray) (hc : ∀ j u, (txtV l)[j]? = some u → w.cell? (a.add j) = some u) (hg : l ≠ [] → ∃ g o, a = ⟨g, o, none⟩ ∧ g < w.heap.size) (hlen : (l.length + 1) * 16 ≤ 140737488355328) :
    Calls Tryd.prog 85 #[.slice (some a) l.length c] w fun e w' => ∃ s', e = .returned s' ∧ w'.ownsRow w.heap.size 9 1 s' l.length (txtV l) ∧ Below w.heap.size w w' := by
  obtain ⟨i0, hi, hz0, hz1, hz2⟩ := info_parts Tryd.inf9
  have he := fun w => Lib.run_eql_slice_nil (P := Tryd.prog) w 33 9 (some a) l.length c 0 0 Tryd.underlying33
  have hnews : ∀ j u, (txtV l)[j]? = some u → (w.alloc (.cells #[] 9)).cell? (a.add j) = some u := by
    intro j u hu
    have hne : l ≠ [] := by rintro rfl; simp [txtV] at hu
    obtain ⟨g, o, rfl, hgl⟩ := hg hne
    have := hc j u hu
    rw [Addr.add_lit] at this ⊢
    rw [World.cell?_alloc_past _ _ _ hgl]
    exact this
  clear hc hg
  have h0 : (w.alloc (.cells #[] 9)).ownsRow w.heap.size 9 1 (.slice (some ⟨w.heap.size, 0, none⟩) 0 0) 0 [] := World.ownsRow_made w #[] 0 (Nat.le_refl _) (by unfold maxLen; omega) rfl
  go_enter Tryd.func85, Tryd.ntmps85
  go_wp2_with (at_builtin; refine wpList_append_own_at _ rfl (.tmp 5) (.tmp 6) 33 rfl w.heap.size 9 i0 (.string (.mk #[])) 1 16 Tryd.underlying33 hi hz0 hz1 hz2 rfl (by decide) _ _ _ rfl h0 a l.length c (txtV l) rfl (by rw [txtV_length]; omega) hnews (txtV_one _) (by unfold maxLen; omega) (by omega) (by simp) ?_)
  intro v' w1 hown hgr hnil hat
  have R : Hid (w1.ownsRow w.heap.size 9 1 v' l.length (txtV l) ∧ Below w.heap.size w w1) := by
    refine ⟨by simpa using hown, ((Below.refl _ _).alloc (Nat.le_refl _) _).grown hgr (by simp) (fun k hk => ?_)⟩
    simp [Value.ownBlock] at hk
    omega
  clear hown hgr hnil hat h0
  go_wp2
  go_ret
  exact ⟨v', rfl, R.out.1, R.out.2⟩

set_option maxHeartbeats 800000 in
set_option maxRecDepth 1000000 in
theorem tclone_none {w : World} (c : Nat) :
    Calls Tryd.prog 85 #[.slice none 0 c] w fun e w' => e = .returned (.slice none 0 0) ∧ w' = w := by
  have he := fun w => Lib.run_eql_slice_nil (P := Tryd.prog) w 33 9 none 0 c 0 0 Tryd.underlying33
  go_enter Tryd.func85, Tryd.ntmps85
  go_wp2
  go_ret
  exact ⟨rfl, rfl⟩

theorem tclone_any {w : World} {s : Value} {l : List ByteArray} (h : Txts w s l) (hlen : (l.length + 1) * 16 ≤ 140737488355328) :
    Calls Tryd.prog 85 #[s] w fun e w' => ∃ s', e = .returned s' ∧ w'.ownsRow w.heap.size 9 1 s' l.length (txtV l) ∧ Below w.heap.size w w' := by
  obtain ⟨ao, c, rfl, hc, hx⟩ := h
  have hx' : (l = [] ∧ ao = none) ∨ ∃ a, ao = some a ∧ (l ≠ [] → ∃ g o, a = ⟨g, o, none⟩ ∧ g < w.heap.size) ∧ ∀ j u, (txtV l)[j]? = some u → w.cell? (a.add j) = some u := by
    rcases hx with rfl | ⟨g, o, rfl, hg, hcell⟩
    · cases ao with
      | none => exact .inl ⟨rfl, rfl⟩
      | some a => exact .inr ⟨a, rfl, fun h => absurd rfl h, fun j u hu => by simp [txtV] at hu⟩
    · refine .inr ⟨_, rfl, fun _ => ⟨_, _, rfl, hg⟩, fun j u hu => ?_⟩
      simp only [txtV, List.getElem?_map] at hu
      obtain ⟨x, hx, rfl⟩ := Option.map_eq_some_iff.1 hu
      obtain ⟨hj, rfl⟩ := List.getElem?_eq_some_iff.1 hx
      rw [Addr.add_lit]
      exact hcell j hj
  rcases hx' with ⟨rfl, rfl⟩ | ⟨a, rfl, hg, hcell⟩
  · refine (tclone_none c).mono ?_
    rintro e w' ⟨rfl, rfl⟩
    exact ⟨_, rfl, World.ownsRow_nil _ _ _ _, Below.refl _ _⟩
  · exact tclone_some a c l hcell hg hlen

theorem info35 : (Tryd.prog.info? 35).map (·.size) = some 3 := by kernel_rfl
set_option maxHeartbeats 1600000 in
set_option maxRecDepth 1000000 in
/-- A result that is copied. -/
theorem copied_any {w : World} (c n : Int) {ao : Option Addr} {k p : Nat} {l : List ByteArray} (h : Txts w (.slice ao k p) l) (hlen : (l.length + 1) * 16 ≤ 140737488355328) : Calls Tryd.prog 61 #[.agg #[.int .i64 c, .int .i64 n, .slice ao k p]] w fun e w' => ∃ a1 k1 p1, e = .returned (.agg #[.int .i64 c, .int .i64 n, .slice a1 k1 p1]) ∧ Below w.heap.size w w' := by
  have A0 : Hid (All [blkC (w.heap.size + 1) [.int .i64 0, .int .i64 0, .slice none 0 0] 35, blkC w.heap.size [.int .i64 c, .int .i64 n, .slice ao k p] 35, inC w] ((w.alloc (.cells #[.int .i64 c, .int .i64 n, .slice ao k p] 35)).alloc (.cells #[.int .i64 0, .int .i64 0, .slice none 0 0] 35))) := hid (by
    have := ((All.came w).addBlk [.int .i64 c, .int .i64 n, .slice ao k p] 35).addBlk [.int .i64 0, .int .i64 0, .slice none 0 0] 35
    simp only [World.size_alloc] at this
    exact this)
  have C : Hid (∀ W, Below w.heap.size w W → Calls Tryd.prog 85 #[.slice ao k p] W fun e w' => ∃ a1 k1 p1, e = .returned (.slice a1 k1 p1) ∧ Below W.heap.size W w') := hid (fun W hb => (tclone_any (h.later hb) hlen).mono fun e w' ⟨s', he, ho, hb'⟩ => by
    obtain ⟨a1, p1, rfl⟩ := owns_form ho
    exact ⟨a1, _, p1, he, hb'⟩)
  clear h hlen
  go_enter Tryd.func61, Tryd.ntmps61
  go_upto_region 1 with fail
  generalize (w.alloc (.cells #[.int .i64 c, .int .i64 n, .slice ao k p] 35)).alloc (.cells #[.int .i64 0, .int .i64 0, .slice none 0 0] 35) = w1 at A0 ⊢
  generalize w.heap.size + 1 = X2 at *
  have BW := hid (A0.out.into (w0 := w) (by simp))
  obtain ⟨B0, hB0⟩ : ∃ B0, Hid (B0 = w.heap.size) := ⟨_, hid rfl⟩
  rw [← hB0.out] at A0
  have y2 : w1.cell? ⟨w.heap.size, 2, none⟩ = some (.slice ao k p) := by rw [← hB0.out, cell_at A0.out.tail.1.2.1]; rfl
  go_upto_region 2 with (go_at_call 85; refine (C.out _ BW.out).mono ?_; rintro e w2 ⟨a1, k1, p1, rfl, b2⟩; have K2 := hid (A0.out.later b2); clear b2; have z2 : w2.cell? ⟨w.heap.size, 2, none⟩ = some (.slice ao k p) := (by rw [← hB0.out, cell_at K2.out.tail.1.2.1]; rfl); have f2 : w2.frozen? ⟨w.heap.size, 2, none⟩ = false := (by rw [← hB0.out]; exact free_at K2.out.tail.1.2.1 2))
  have K3 : Hid (All (blkC B0 [.int .i64 c, .int .i64 n, .slice a1 k1 p1] 35 :: blkC X2 [.int .i64 0, .int .i64 0, .slice none 0 0] 35 :: [inC w]) (w2.setCell ⟨B0, 2, none⟩ (.slice a1 k1 p1))) := hid (K2.out.swap.setBlk 2 (.slice a1 k1 p1))
  rw [hB0.out] at K3
  clear z2 f2 y2 A0 K2 BW C hB0
  generalize w2.setCell ⟨w.heap.size, 2, none⟩ (.slice a1 k1 p1) = w3 at *
  obtain ⟨RV, hRV⟩ : ∃ RV : List Value, RV = [.int .i64 c, .int .i64 n, .slice a1 k1 p1] := ⟨_, rfl⟩
  have I35 : Hid ((Tryd.prog.info? 35).map (·.size) = some RV.toArray.size) := hid (by rw [hRV]; exact info35)
  have O35 : Hid (RV.toArray.all (·.oneCell') = true) := hid (by rw [hRV]; simp [Value.oneCell'])
  have Z35 : Hid (([.int .i64 0, .int .i64 0, .slice none 0 0] : List Value).toArray.size = RV.toArray.size) := hid (by rw [hRV]; rfl)
  have FE : Hid (Value.agg RV.toArray = .agg #[.int .i64 c, .int .i64 n, .slice a1 k1 p1]) := hid (by rw [hRV])
  rw [← hRV] at K3
  clear hRV
  have H3 := hid K3.out.1.2.1
  have H4 := hid K3.out.tail.1.2.1
  have K4 := hid (K3.out.swap.setRow (vs' := RV))
  go_wp2_with (first | (refine wpList_load_row rfl 35 _ rfl w.heap.size rfl 35 RV.toArray (0, 0) _ H3.out Tryd.underlying35 rfl I35.out ?_) | (refine wpList_store_row rfl 35 _ _ rfl X2 RV.toArray rfl rfl 35 _ H4.out I35.out Z35.out O35.out ?_))
  refine bodyPost_ret (v := .agg RV.toArray) (results_cell_row (fn := Tryd.f61) rfl _ _ X2 35 RV.toArray (0, 0) _ rfl K4.out.1.2.1 Tryd.underlying35 rfl I35.out) rfl ?_
  exact ⟨a1, k1, p1, by rw [FE.out], K4.out.into (by simp)⟩
end Go.Proofs.YteloaggebkbeeaaDoor

namespace Go.Proofs.YteloaggebkbeeaaDoor
open Go.RowKit
set_option linter.unusedVariables false

/-- The answer that a reply brings. -/
def ansA (m : Ms) (v : Value) : List Value := [.bool false, .int .i64 m.q, .int .i64 m.n, .int .i64 0, .int .i64 m.rc, .int .i64 m.rn, v]
/-- What the copy of its result is. -/
def CopR (w0 : World) (mm : Ms) : Prop := ∀ W, Below w0.heap.size w0 W → Calls Tryd.prog 61 #[.agg #[.int .i64 mm.rc, .int .i64 mm.rn, .slice mm.ra mm.rl mm.rp]] W fun e w' => ∃ a1 k1 p1, e = .returned (.agg #[.int .i64 mm.rc, .int .i64 mm.rn, .slice a1 k1 p1]) ∧ Below W.heap.size W w'
set_option maxHeartbeats 3200000 in
set_option maxRecDepth 1000000 in
theorem takeReplyA {P : Nat} {x : Px} {b m n1 n2 : Int} {cs : List Comp} {w w0 : World} (h : All (pxL P x b m n1 n2 ++ cs) w) (hin : inC w0 ∈ cs) (mm : Ms) (hz : CopR w0 mm) : Calls Tryd.prog 37 #[.pointer (some ⟨P, 0, none⟩), .agg mm.cells.toArray] w fun e w' => ∃ a1 k1 p1, e = .returned (.agg (ansA mm (.slice a1 k1 p1)).toArray) ∧ All (pxL P (x.reply mm) b m b n2 ++ cs) w' := by
  obtain ⟨M, hM⟩ : ∃ M, Hid (M = w.heap.size) := ⟨_, hid rfl⟩
  obtain ⟨G, hG⟩ : ∃ G, Hid (G = w.heap.size + 1) := ⟨_, hid rfl⟩
  have A1 : Hid (All (blkC M mm.cells 41 :: blkC G [.bool false, .int .i64 0, .int .i64 0, .int .i64 0, .int .i64 0, .int .i64 0, .slice none 0 0] 48 :: (pxL P x b m n1 n2 ++ cs)) ((w.alloc (.cells mm.cells.toArray 41)).alloc (.cells #[.bool false, .int .i64 0, .int .i64 0, .int .i64 0, .int .i64 0, .int .i64 0, .slice none 0 0] 48))) := hid (by
    have := ((h.addBlk mm.cells 41).addBlk [.bool false, .int .i64 0, .int .i64 0, .int .i64 0, .int .i64 0, .int .i64 0, .slice none 0 0] 48).swap
    simp only [World.size_alloc] at this
    rw [hM.out, hG.out]
    exact this)
  have C60 : Hid (∀ W, All (blkC M mm.cells 41 :: blkC G [.bool false, .int .i64 0, .int .i64 0, .int .i64 0, .int .i64 0, .int .i64 0, .slice none 0 0] 48 :: (pxL P x b m n1 n2 ++ cs)) W → Calls Tryd.prog 60 #[.pointer (some ⟨P, 4, none⟩)] W fun e w' => e = .returned (.tuple #[]) ∧ All (blkC M mm.cells 41 :: blkC G [.bool false, .int .i64 0, .int .i64 0, .int .i64 0, .int .i64 0, .int .i64 0, .slice none 0 0] 48 :: (pxL P { x with rq := x.rq.ended } b m b n2 ++ cs)) w') := hid (fun W hW => by
    have h1 := hW.perm (show List.Perm _ (pxL P x b m n1 n2 ++ (blkC M mm.cells 41 :: blkC G [.bool false, .int .i64 0, .int .i64 0, .int .i64 0, .int .i64 0, .int .i64 0, .slice none 0 0] 48 :: cs)) from (((List.Perm.cons _ (List.perm_middle (l₁ := pxL P x b m n1 n2)).symm).trans (List.perm_middle (l₁ := pxL P x b m n1 n2)).symm)))
    refine (endR h1).mono ?_
    rintro e w' ⟨a1, a2⟩
    exact ⟨a1, a2.perm (((List.Perm.cons _ (List.perm_middle (l₁ := pxL P { x with rq := x.rq.ended } b m b n2)).symm).trans (List.perm_middle (l₁ := pxL P { x with rq := x.rq.ended } b m b n2)).symm)).symm⟩)
  have C61 : Hid (∀ W ds, All (ds ++ (pxL P (x.reply mm) b m b n2 ++ cs)) W → Calls Tryd.prog 61 #[.agg #[.int .i64 mm.rc, .int .i64 mm.rn, .slice mm.ra mm.rl mm.rp]] W fun e w' => ∃ a1 k1 p1, e = .returned (.agg #[.int .i64 mm.rc, .int .i64 mm.rn, .slice a1 k1 p1]) ∧ Below W.heap.size W w') := hid (fun W ds h => hz W (h.into (by simp [hin])))
  have HM : Hid (∀ W cs', All (blkC M mm.cells 41 :: cs') W → (fun W => W.cell? ⟨M, 3, none⟩ = some (.int .i64 mm.v) ∧ W.cell? ⟨M, 4, none⟩ = some (.int .i64 mm.n)) W) := hid (fun W cs' hW => ⟨by rw [cell_at hW.1.2.1]; rfl, by rw [cell_at hW.1.2.1]; rfl⟩)
  have SH3 : Hid (∀ W cs', All (blkC M mm.cells 41 :: cs') W → (fun W => W.cell? ⟨M, 8, none⟩ = some (.int .i64 mm.q) ∧ W.cell? ⟨M, 4, none⟩ = some (.int .i64 mm.n) ∧ W.cell? ⟨M, 15, none⟩ = some (.int .i64 mm.rc) ∧ W.cell? ⟨M, 16, none⟩ = some (.int .i64 mm.rn) ∧ W.cell? ⟨M, 17, none⟩ = some (.slice mm.ra mm.rl mm.rp)) W) := hid (fun W cs' hW => ⟨by rw [cell_at hW.1.2.1]; rfl, by rw [cell_at hW.1.2.1]; rfl, by rw [cell_at hW.1.2.1]; rfl, by rw [cell_at hW.1.2.1]; rfl, by rw [cell_at hW.1.2.1]; rfl⟩)
  have I48 : Hid (∀ v, (Tryd.prog.info? 48).map (·.size) = some (ansA mm v).toArray.size) := hid (fun v => info48)
  have O48 : Hid (∀ a1 k1 p1, (ansA mm (.slice a1 k1 p1)).toArray.all (·.oneCell') = true) := hid (fun a1 k1 p1 => by simp [ansA, Value.oneCell'])
  have Z48 : Hid (∀ v, ([.bool false, .int .i64 0, .int .i64 0, .int .i64 0, .int .i64 0, .int .i64 0, .slice none 0 0] : List Value).toArray.size = (ansA mm v).toArray.size) := hid (fun v => rfl)
  obtain ⟨PM, hPM⟩ : ∃ PM, Hid (PM = mm.cells.toArray) := ⟨_, hid rfl⟩
  rw [← hPM.out] at A1 ⊢
  clear h hz hin
  go_enter Tryd.func37, Tryd.ntmps37
  go_upto_region 1 with fail
  simp only [← hM.out]
  have eG : M + 1 = G := by rw [hM.out, hG.out]
  simp only [eG]
  clear eG
  generalize (w.alloc (.cells PM 41)).alloc (.cells #[.bool false, .int .i64 0, .int .i64 0, .int .i64 0, .int .i64 0, .int .i64 0, .slice none 0 0] 48) = w1 at A1 ⊢
  go_wp2_with fail
  refine (C60.out _ A1.out).mono ?_
  rintro e w2 ⟨rfl, hw2⟩
  have A2 := hid hw2
  clear hw2 C60 A1
  go_upto_region 2 with fail
  have A3 := hid A2.out.drew
  have p0 := hid (HM.out _ _ A3.out)
  have c2 : w2.drew.cell? ⟨P, 2, none⟩ = some (.int .i64 x.view) := by rw [cell_at A3.out.tail.tail.px]; rfl
  have c3 : w2.drew.cell? ⟨P, 3, none⟩ = some (.int .i64 x.seen) := by rw [cell_at A3.out.tail.tail.px]; rfl
  have g2 : w2.drew.frozen? ⟨P, 2, none⟩ = false := free_at A3.out.tail.tail.px 2
  have g3 : w2.drew.frozen? ⟨P, 3, none⟩ = false := free_at A3.out.tail.tail.px 3
  have B1 := (A3.out.perm (show List.Perm _ (pxL P { x with rq := x.rq.ended } b m b n2 ++ (blkC M mm.cells 41 :: blkC G [.bool false, .int .i64 0, .int .i64 0, .int .i64 0, .int .i64 0, .int .i64 0, .slice none 0 0] 48 :: cs)) from (((List.Perm.cons _ (List.perm_middle (l₁ := pxL P { x with rq := x.rq.ended } b m b n2)).symm).trans (List.perm_middle (l₁ := pxL P { x with rq := x.rq.ended } b m b n2)).symm)))).setBlk 2 (.int .i64 (max x.view mm.v))
  have B2 := B1.setBlk 3 (.int .i64 (max x.seen mm.n))
  have p1 := hid (HM.out _ _ (B1.perm (List.perm_middle (a := blkC M mm.cells 41) (l₁ := blkC P _ 74 :: boC x.rq.pb b m b :: [boC x.qu.pb b m n2]))))
  have p2 := hid (HM.out _ _ (B2.perm (List.perm_middle (a := blkC M mm.cells 41) (l₁ := blkC P _ 74 :: boC x.rq.pb b m b :: [boC x.qu.pb b m n2]))))
  have B3 : Hid (All (blkC M mm.cells 41 :: blkC G [.bool false, .int .i64 0, .int .i64 0, .int .i64 0, .int .i64 0, .int .i64 0, .slice none 0 0] 48 :: (pxL P (x.reply mm) b m b n2 ++ cs)) ((w2.drew.setCell ⟨P, 2, none⟩ (.int .i64 (max x.view mm.v))).setCell ⟨P, 3, none⟩ (.int .i64 (max x.seen mm.n)))) := hid (All.perm (((List.Perm.cons _ (List.perm_middle (l₁ := pxL P (x.reply mm) b m b n2)).symm).trans (List.perm_middle (l₁ := pxL P (x.reply mm) b m b n2)).symm)).symm B2)
  clear B1 B2
  obtain ⟨m3, m4⟩ := p0.out
  have k2 : w2.cell? ⟨P, 2, none⟩ = some (.int .i64 x.view) := c2
  have k3 : w2.cell? ⟨P, 3, none⟩ = some (.int .i64 x.seen) := c3
  have j2 : w2.frozen? ⟨P, 2, none⟩ = false := g2
  have j3 : w2.frozen? ⟨P, 3, none⟩ = false := g3
  have u3 : w2.cell? ⟨M, 3, none⟩ = some (.int .i64 mm.v) := m3
  have u4 : w2.cell? ⟨M, 4, none⟩ = some (.int .i64 mm.n) := m4
  go_cut [] (fun wx => Hid (All (blkC M mm.cells 41 :: blkC G [.bool false, .int .i64 0, .int .i64 0, .int .i64 0, .int .i64 0, .int .i64 0, .slice none 0 0] 48 :: (pxL P (x.reply mm) b m b n2 ++ cs)) wx))
  case first =>
    go_region
    all_goals
      go_wp2_with fail
      go_meet
      exact B3
  case rest =>
  have A4 := hcut
  clear p0 p1 p2 c2 c3 g2 g3 B3 A3 A2 m3 m4 hcut k2 k3 j2 j3 u3 u4
  go_upto_region 3 with fail
  have A5 := hid A4.out.drew
  have r0 := hid (SH3.out _ _ A5.out)
  refine wp_region_held_drew (S := (fun W => W.cell? ⟨M, 8, none⟩ = some (.int .i64 mm.q) ∧ W.cell? ⟨M, 4, none⟩ = some (.int .i64 mm.n) ∧ W.cell? ⟨M, 15, none⟩ = some (.int .i64 mm.rc) ∧ W.cell? ⟨M, 16, none⟩ = some (.int .i64 mm.rn) ∧ W.cell? ⟨M, 17, none⟩ = some (.slice mm.ra mm.rl mm.rp))) (by kernel_rfl) r0.out (fun hHeld => ?_)
  refine wpAnyH_take (i := 0) (oi := { dst := some 30, op := Go.Op.fieldAddr 41 (Go.Operand.tmp 3) 8, type := 0, pos := "proxy.go:80", after := #[], guard := none }) (v := ?_) rfl (by kernel_rfl) (by kernel_rfl) (by kernel_rfl) (fun _ _ _ h => h) (Or.inl ⟨by rfl, ?_⟩) hHeld ?_
  rotate_left
  · intro W hSw
    (try dsimp only at hSw)
    go_simp
    (try with_reducible rfl)
  (try simp only [Act.put, List.setIfInBounds_toArray, List.set_cons_zero, List.set_cons_succ])
  refine wpAnyH_take (i := 1) (oi := { dst := some 31, op := Go.Op.load 3 (Go.Operand.tmp 30), type := 3, pos := "proxy.go:80", after := #[{ on := 0, ground := Go.Ground.data }], guard := none }) (v := ?_) rfl (by kernel_rfl) (by kernel_rfl) (by kernel_rfl) (fun _ _ _ h => h) (Or.inl ⟨by rfl, ?_⟩) hHeld ?_
  rotate_left
  · intro W hSw
    (try dsimp only at hSw)
    go_simp
    (try with_reducible rfl)
  (try simp only [Act.put, List.setIfInBounds_toArray, List.set_cons_zero, List.set_cons_succ])
  refine wpAnyH_take (i := 2) (oi := { dst := some 32, op := Go.Op.fieldAddr 41 (Go.Operand.tmp 3) 4, type := 0, pos := "proxy.go:80", after := #[], guard := none }) (v := ?_) rfl (by kernel_rfl) (by kernel_rfl) (by kernel_rfl) (fun _ _ _ h => h) (Or.inl ⟨by rfl, ?_⟩) hHeld ?_
  rotate_left
  · intro W hSw
    (try dsimp only at hSw)
    go_simp
    (try with_reducible rfl)
  (try simp only [Act.put, List.setIfInBounds_toArray, List.set_cons_zero, List.set_cons_succ])
  refine wpAnyH_take (i := 3) (oi := { dst := some 33, op := Go.Op.load 3 (Go.Operand.tmp 32), type := 3, pos := "proxy.go:80", after := #[{ on := 2, ground := Go.Ground.data }], guard := none }) (v := ?_) rfl (by kernel_rfl) (by kernel_rfl) (by kernel_rfl) (fun _ _ _ h => h) (Or.inl ⟨by rfl, ?_⟩) hHeld ?_
  rotate_left
  · intro W hSw
    (try dsimp only at hSw)
    go_simp
    (try with_reducible rfl)
  (try simp only [Act.put, List.setIfInBounds_toArray, List.set_cons_zero, List.set_cons_succ])
  refine wpAnyH_take (i := 4) (oi := { dst := some 34, op := Go.Op.fieldAddr 41 (Go.Operand.tmp 3) 11, type := 0, pos := "proxy.go:80", after := #[], guard := none }) (v := ?_) rfl (by kernel_rfl) (by kernel_rfl) (by kernel_rfl) (fun _ _ _ h => h) (Or.inl ⟨by rfl, ?_⟩) hHeld ?_
  rotate_left
  · intro W hSw
    (try dsimp only at hSw)
    go_simp
    (try with_reducible rfl)
  (try simp only [Act.put, List.setIfInBounds_toArray, List.set_cons_zero, List.set_cons_succ])
  refine wpAnyH_take (i := 5) (oi := { dst := some 35, op := Go.Op.load 35 (Go.Operand.tmp 34), type := 35, pos := "proxy.go:80", after := #[{ on := 4, ground := Go.Ground.data }], guard := none }) (v := ?_) rfl (by kernel_rfl) (by kernel_rfl) (by kernel_rfl) (fun _ _ _ h => h) (Or.inl ⟨by rfl, ?_⟩) hHeld ?_
  rotate_left
  · intro W hSw
    (try dsimp only at hSw)
    go_simp
    (try with_reducible rfl)
  (try simp only [Act.put, List.setIfInBounds_toArray, List.set_cons_zero, List.set_cons_succ])
  refine wpAnyH_ready (rs := [6]) (by kernel_rfl) (by simp) ?_
  refine AllReadyH.cons (o := { dst := some 36, op := Go.Op.call { callee := Go.Callee.value (Go.Operand.func 61), args := #[Go.Operand.tmp 35], argTypes := #[35] }, type := 35, pos := "proxy.go:80", after := #[{ on := 5, ground := Go.Ground.data }], guard := none }) rfl (fun K hK => ?_) AllReadyH.nil
  go_simp
  refine (C61.out _ [_, _] A5.out).mono ?_; rintro e w6 ⟨a1, k1, p1, rfl, BB⟩; have A6 := hid (A5.out.later BB); have r1 := hid (SH3.out _ _ A6.out); clear BB
  refine hK.out _ _ r1.out (fun hHeld => ?_)
  clear hK K
  (try simp only [Act.put, List.setIfInBounds_toArray, List.set_cons_zero, List.set_cons_succ])
  refine wpAnyH_take (i := 7) (oi := { dst := some 37, op := Go.Op.build 48 #[(1, Go.Operand.tmp 31), (2, Go.Operand.tmp 33), (4, Go.Operand.tmp 36)], type := 48, pos := "proxy.go:80", after := #[{ on := 1, ground := Go.Ground.data }, { on := 3, ground := Go.Ground.data }, { on := 6, ground := Go.Ground.data }], guard := none }) (v := .agg (ansA mm (.slice a1 k1 p1)).toArray) rfl (by kernel_rfl) (by kernel_rfl) (by kernel_rfl) (fun _ _ _ h => h) (yieldsIf_build (by rfl) 48 _ rfl (ansA mm (.slice a1 k1 p1)).toArray (by kernel_rfl)) hHeld ?_
  (try simp only [Act.put, List.setIfInBounds_toArray, List.set_cons_zero, List.set_cons_succ])
  have A7 := hid (((A6.out.swap.setRow (vs' := ansA mm (.slice a1 k1 p1)))))
  have r2 := hid (SH3.out _ _ A7.out.swap)
  have hg2 := hid A6.out.tail.1.2.1
  refine wpAnyH_ready (rs := [8]) (by kernel_rfl) (by simp) ?_
  refine AllReadyH.cons (o := { dst := none, op := Go.Op.store 48 (Go.Operand.tmp 4) (Go.Operand.tmp 37), type := 0, pos := "proxy.go:80", after := #[{ on := 7, ground := Go.Ground.data }, { on := 6, ground := Go.Ground.chain }, { on := 0, ground := Go.Ground.phase }, { on := 1, ground := Go.Ground.phase }, { on := 2, ground := Go.Ground.phase }, { on := 3, ground := Go.Ground.phase }, { on := 4, ground := Go.Ground.phase }, { on := 5, ground := Go.Ground.phase }, { on := 6, ground := Go.Ground.phase }, { on := 7, ground := Go.Ground.phase }], guard := none }) rfl (fun K hK => ?_) AllReadyH.nil
  rw [if_pos (by rfl)]
  refine wp_store_row 48 _ _ rfl G (ansA mm (.slice a1 k1 p1)).toArray rfl rfl 48 _ hg2.out (I48.out _) (Z48.out _) (O48.out a1 k1 p1) ?_
  refine hK.out _ _ r2.out (fun hHeld => ?_)
  clear hK K
  (try simp only [Act.put])
  refine wpAnyH_done (by kernel_rfl) ?_ _
  clear hHeld
  clear r0 r1 r2 hg2
  go_wp2
  refine bodyPost_ret (v := .agg (ansA mm (.slice a1 k1 p1)).toArray) (results_cell_row (fn := Tryd.f37) rfl _ _ G 48 (ansA mm (.slice a1 k1 p1)).toArray (0, 0) _ rfl A7.out.1.2.1 Tryd.underlying48 rfl (I48.out _)) rfl ?_
  exact ⟨a1, k1, p1, rfl, A7.out.tail.tail⟩
end Go.Proofs.YteloaggebkbeeaaDoor
