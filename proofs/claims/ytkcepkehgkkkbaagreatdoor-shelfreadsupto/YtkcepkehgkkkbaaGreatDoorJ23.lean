import Derived.Test.YtkcepkehgkkkbaaGreatDoorJ22
import Derived.Deep.RegionHeld3
namespace Go.Proofs
theorem Tryz.info39 : (Tryz.prog.info? 39).map (fun i => (i.zero, i.size, i.bytes)) = some (some (.slice none 0 0), 1, 24) := by kernel_rfl
theorem Tryz.und30 : Tryz.prog.underlying 30 = some (.slice 39) := by kernel_rfl
end Go.Proofs
namespace Go.Proofs.YtkcepkehgkkkbaaGreatDoor
open Go.RowKit
set_option linter.unusedVariables false
attribute [local go_sem ↓] Go.wp_at_zero Go.wp_at_succ

theorem cell_new1 (w : World) (x : Value) (t : TypeId) : (w.alloc (.cells #[x] t)).cell? ⟨w.heap.size, 0, none⟩ = some x := by rw [cell_at (heap_alloc_new w _)]; rfl
/-- The box with its two lists of lists. -/
def bxL (S : Nat) (ov wv : Value) (us ms : List Value) : List Comp := [blkC S [ov, wv] 32, ownC 39 ov us, ownC 39 wv ms]

/-- Lists that are alike in twos, texts, few. -/
structure ShOk (PA PM : List En) : Prop where
  same : PA.map Prod.snd = PM.map Prod.snd
  txt : ∀ e ∈ PA, ∃ l : List ByteArray, e.2 = txtV l ∧ l.length ≤ 1000

theorem ShOk.len {PA PM : List En} (h : ShOk PA PM) : PA.length = PM.length := by
  have := congrArg List.length h.same
  simpa using this
theorem ShOk.snoc {PA PM : List En} (h : ShOk PA PM) (a m : Value) (l : List ByteArray) (hl : l.length ≤ 1000) : ShOk (PA ++ [(a, txtV l)]) (PM ++ [(m, txtV l)]) := by
  refine ⟨by simp [h.same], fun e he => ?_⟩
  rcases List.mem_append.1 he with he | he
  · exact h.txt e he
  · simp only [List.mem_cons, List.not_mem_nil, or_false] at he
    subst he
    exact ⟨l, rfl, hl⟩

theorem Txts.of_own {w : World} {base : Nat} {v : Value} {l : List ByteArray} (h : w.ownsRow base 9 1 v (txtV l).length (txtV l)) : Txts w v l := by
  obtain ⟨ao, c, rfl⟩ := owns_form h
  have hl := owns_len h
  have e : (txtV l).length = l.length := by simp
  refine ⟨ao, c, by rw [e], by omega, ?_⟩
  cases hl0 : l with
  | nil => exact Or.inl rfl
  | cons x t =>
    right
    have h0 : (txtV l)[0]? = some (.string x) := by rw [hl0]; rfl
    obtain ⟨g, rfl, hc, _⟩ := owns_at h h0
    refine ⟨g, 0, rfl, World.block_lt_of_cell? w _ hc, fun j hj => ?_⟩
    rw [← hl0] at hj
    have hj2 : (txtV l)[j]? = some (.string l[j]) := by simp [hj]
    obtain ⟨g2, e2, hc2, _⟩ := owns_at h hj2
    simp only [Option.some.injEq, Addr.mk.injEq, and_true] at e2
    subst e2
    rw [Nat.zero_add, hc2]
    simp [hl0]

theorem alik_own {w : World} {PA PM : List En} (h : ShOk PA PM) (hA : ∀ e ∈ PA, w.ownsRow 0 9 1 e.1 e.2.length e.2) (hM : ∀ e ∈ PM, w.ownsRow 0 9 1 e.1 e.2.length e.2) : Alik w (PA.map Prod.fst) (PM.map Prod.fst) := by
  intro i u m hu hm
  rw [List.getElem?_map] at hu hm
  obtain ⟨a, ha, rfl⟩ := Option.map_eq_some_iff.1 hu
  obtain ⟨b, hb, rfl⟩ := Option.map_eq_some_iff.1 hm
  have e : a.2 = b.2 := by
    have := congrArg (fun l => l[i]?) h.same
    simpa [ha, hb] using this
  obtain ⟨l, hl, hn⟩ := h.txt a (List.mem_of_getElem? ha)
  have h1 := hA a (List.mem_of_getElem? ha)
  have h2 := hM b (List.mem_of_getElem? hb)
  rw [hl] at h1
  rw [← e, hl] at h2
  exact ⟨l, Txts.of_own h1, Txts.of_own h2, by omega⟩

/-- The lists that were handed out, with what they must read as. -/
def shL (S : Nat) (ov wv : Value) (PA PM : List En) : List Comp := bxL S ov wv (PA.map Prod.fst) (PM.map Prod.fst) ++ (PA.map (eC 9) ++ PM.map (eC 9))

theorem holds_sh {S : Nat} {ov wv : Value} {PA PM : List En} {cs : List Comp} {w : World} (h : All (shL S ov wv PA PM ++ cs) w) (ok : ShOk PA PM) (hl : PA.length ≤ 1000000000000) :
    Calls Tryz.prog 21 #[.pointer (some ⟨S, 0, none⟩)] w fun e w' => e = .returned (.bool true) ∧ ∃ q, w' = w.drewN q := by
  have hb : w.heap[S]? = some (.cells #[ov, wv] 32 (0, 0)) := h.blk (g := S) (vs := [ov, wv]) (t := 32) (by simp [shL, bxL])
  have ho : w.ownsRow 0 39 1 ov (PA.map Prod.fst).length (PA.map Prod.fst) := (h.mem (c := ownC 39 ov (PA.map Prod.fst)) (by simp [shL, bxL])).2.1
  have hw : w.ownsRow 0 39 1 wv (PM.map Prod.fst).length (PM.map Prod.fst) := (h.mem (c := ownC 39 wv (PM.map Prod.fst)) (by simp [shL, bxL])).2.1
  refine shHolds hb ho hw (by simp [ok.len]) (alik_own ok (fun e he => ?_) (fun e he => ?_)) (by simp; omega)
  · exact (h.mem (c := eC 9 e) (by simp only [shL, List.mem_append, List.mem_map]; exact .inl (.inr (.inl ⟨e, he, rfl⟩)))).2.1
  · exact (h.mem (c := eC 9 e) (by simp only [shL, List.mem_append, List.mem_map]; exact .inl (.inr (.inr ⟨e, he, rfl⟩)))).2.1

set_option maxHeartbeats 3200000 in
set_option maxRecDepth 1000000 in
/-- One more is laid by. -/
theorem keep_any {S n c : Nat} {ov wv : Value} {so : Option Addr} {PA PM : List En} {l : List ByteArray} {cs : List Comp} {w : World} (h : All (ownC 9 (.slice so n c) (txtV l) :: (shL S ov wv PA PM ++ cs)) w) (ok : ShOk PA PM) (hl : l.length ≤ 1000) (hn : PA.length ≤ 1000000000000) :
    Calls Tryz.prog 18 #[.pointer (some ⟨S, 0, none⟩), .slice so n c] w fun e w' => e = .returned (.tuple #[]) ∧ ∃ ov' wv' mv, All (shL S ov' wv' (PA ++ [(.slice so n c, txtV l)]) (PM ++ [(mv, txtV l)]) ++ cs) w' := by
  obtain ⟨i1, hi1, hz0, hz1, hz2⟩ := info_parts Tryz.info39
  have hlen := ok.len
  have A1 := h.addMade
  have T1 : Txts (w.alloc (.cells #[] 9)) (.slice so n c) l := Txts.of_own (A1.tail.1.2.1)
  obtain ⟨so2, sc2, w2, hr2, A2⟩ := appX A1 T1 (by simp; omega)
  rw [List.nil_append] at A2
  rw [List.length_nil, Nat.zero_add] at hr2 A2
  have A3 := hid ((A2.alloc (.cells #[.slice so n c] 39)).perm (ds := ownC 39 ov (PA.map Prod.fst) :: blkC S [ov, wv] 32 :: ownC 39 wv (PM.map Prod.fst) :: ownC 9 (.slice so2 l.length sc2) (txtV l) :: ownC 9 (.slice so n c) (txtV l) :: (PA.map (eC 9) ++ PM.map (eC 9) ++ cs)) (by
    have := perm_by 6 [[ownC 9 (.slice so2 l.length sc2) (txtV l)], [ownC 9 (.slice so n c) (txtV l)], [blkC S [ov, wv] 32], [ownC 39 ov (PA.map Prod.fst)], [ownC 39 wv (PM.map Prod.fst)], PA.map (eC 9) ++ PM.map (eC 9) ++ cs] [3, 2, 4, 0, 1, 5] rfl (by decide)
    simpa [shL, bxL, List.getD] using this))
  obtain ⟨ao3, c3, w4, hr4, A4⟩ := app1 (H := w2.heap.size) (x := .slice so n c) Tryz.und30 hi1 hz0 hz1 hz2 rfl A3.out (cell_new1 _ _ _) rfl (by simp; unfold maxLen; omega) (by simp; omega)
  have hb2 := A2.blk (g := S) (vs := [ov, wv]) (t := 32) (by simp [shL, bxL])
  obtain ⟨oo, oc, rfl⟩ := owns_form (A3.out.1.2.1 : World.ownsRow _ 0 39 1 ov _ _)
  obtain ⟨wo, wc, rfl⟩ := owns_form (A3.out.tail.tail.1.2.1 : World.ownsRow _ 0 39 1 wv _ _)
  simp only [List.length_map] at *
  generalize hgl : l.length = nl at *
  generalize hgA : PA.length = na at *
  generalize hgM : PM.length = nm at *
  have d0 : w2.cell? ⟨S, 0, none⟩ = some (.slice oo na oc) := by rw [cell_at hb2]; rfl
  have hlt2 : S < w2.heap.size := World.block_lt_of_cell? w2 _ d0
  have A5 := A4.swap
  have hb4 := A5.1.2.1
  have e0 : w4.cell? ⟨S, 0, none⟩ = some (.slice oo na oc) := by rw [cell_at hb4]; rfl
  have f0 : w4.frozen? ⟨S, 0, none⟩ = false := free_at hb4 0
  have A6 := A5.setBlk 0 (.slice ao3 (na + 1) c3)
  generalize hG : w4.setCell ⟨S, 0, none⟩ (.slice ao3 (na + 1) c3) = w5 at A6
  have hb5 := A6.1.2.1
  have g1 : w5.cell? ⟨S, 1, none⟩ = some (.slice wo nm wc) := by rw [cell_at hb5]; rfl
  have hlt5 : S < w5.heap.size := World.block_lt_of_cell? w5 _ g1
  have A7 := hid ((A6.alloc (.cells #[.slice so2 nl sc2] 39)).perm (ds := ownC 39 (.slice wo nm wc) (PM.map Prod.fst) :: blkC S [.slice ao3 (na + 1) c3, .slice wo nm wc] 32 :: ownC 39 (.slice ao3 (na + 1) c3) (PA.map Prod.fst ++ [.slice so n c]) :: ownC 9 (.slice so2 nl sc2) (txtV l) :: ownC 9 (.slice so n c) (txtV l) :: (PA.map (eC 9) ++ PM.map (eC 9) ++ cs)) (by
    have := perm_by 6 [[blkC S [.slice ao3 (na + 1) c3, .slice wo nm wc] 32], [ownC 39 (.slice ao3 (na + 1) c3) (PA.map Prod.fst ++ [.slice so n c])], [ownC 39 (.slice wo nm wc) (PM.map Prod.fst)], [ownC 9 (.slice so2 nl sc2) (txtV l)], [ownC 9 (.slice so n c) (txtV l)], PA.map (eC 9) ++ PM.map (eC 9) ++ cs] [2, 0, 1, 3, 4, 5] rfl (by decide)
    simpa [List.getD] using this))
  obtain ⟨ao8, c8, w8, hr8, A8⟩ := app1 (H := w5.heap.size) (x := .slice so2 nl sc2) Tryz.und30 hi1 hz0 hz1 hz2 rfl A7.out (cell_new1 _ _ _) rfl (by simp; unfold maxLen; omega) (by simp; omega)
  simp only [List.length_map, hgM] at hr8 A8
  have A9 := A8.swap
  have hb8 := A9.1.2.1
  have k1 : w8.cell? ⟨S, 1, none⟩ = some (.slice wo nm wc) := by rw [cell_at hb8]; rfl
  have k2 : w8.frozen? ⟨S, 1, none⟩ = false := free_at hb8 1
  have AX := hid (A9.setBlk 1 (.slice ao8 (nm + 1) c8))
  have R2 := hid hr2
  have R4 := hid hr4
  have R8 := hid hr8
  clear h A1 T1 A2 A3 A4 A5 A6 A7 A8 A9 hr2 hr4 hr8 hb2 hb4 hb5 hb8 hlen hgl hgA hgM
  go_enter Tryz.func18, Tryz.ntmps18
  go_wp2_with (at_builtin; first | refine wpList_append_run rfl _ (.tmp 7) 39 rfl _ _ _ _ rfl rfl R2.out ?_ | refine wpList_append_run rfl _ (.tmp 15) 30 rfl _ _ _ _ rfl rfl R4.out ?_ | refine wpList_append_run rfl _ (.tmp 25) 30 rfl _ _ _ _ rfl rfl R8.out ?_)
  go_end0
  refine ⟨rfl, .slice ao3 (na + 1) c3, .slice ao8 (nm + 1) c8, .slice so2 nl sc2, AX.out.perm ?_⟩
  have := perm_by 8 [[blkC S [.slice ao3 (na + 1) c3, .slice ao8 (nm + 1) c8] 32], [ownC 39 (.slice ao8 (nm + 1) c8) (PM.map Prod.fst ++ [.slice so2 nl sc2])], [ownC 39 (.slice ao3 (na + 1) c3) (PA.map Prod.fst ++ [.slice so n c])], [ownC 9 (.slice so2 nl sc2) (txtV l)], [ownC 9 (.slice so n c) (txtV l)], PA.map (eC 9), PM.map (eC 9), cs] [0, 2, 1, 5, 4, 6, 3, 7] rfl (by decide)
  simpa [shL, bxL, List.getD, eC] using this
end Go.Proofs.YtkcepkehgkkkbaaGreatDoor

namespace Go.Proofs.YtkcepkehgkkkbaaGreatDoor
open Go.RowKit
set_option linter.unusedVariables false

/-- A list is no longer than its room. -/
def Cap (v : Value) : Prop := ∀ ao n c, v = .slice ao n c → n ≤ c
theorem Cap.own {w : World} {base : Nat} {e : TypeId} {v : Value} {xs : List Value} (h : w.ownsRow base e 1 v xs.length xs) : Cap v := by
  intro ao n c e
  subst e
  have := owns_len h
  omega

theorem Txts.of_rd {w : World} {v : Value} {l : List ByteArray} (h : RdV w v (txtV l)) (hc : Cap v) : Txts w v l := by
  obtain ⟨ao, c, rfl, hx⟩ := h
  have e : (txtV l).length = l.length := by simp
  refine ⟨ao, c, by rw [e], by rw [← e]; exact hc _ _ _ rfl, ?_⟩
  cases hl0 : l with
  | nil => exact Or.inl rfl
  | cons x t =>
    right
    have h0 : (txtV l)[0]? = some (.string x) := by rw [hl0]; rfl
    obtain ⟨g, rfl, hg⟩ := hx 0 _ h0
    refine ⟨g, 0, rfl, World.block_lt_of_cell? w _ hg, fun j hj => ?_⟩
    rw [← hl0] at hj
    have hj2 : (txtV l)[j]? = some (.string l[j]) := by simp [hj]
    obtain ⟨g2, e2, hc2⟩ := hx j _ hj2
    simp only [Option.some.injEq, Addr.mk.injEq, and_true] at e2
    subst e2
    rw [Nat.zero_add, hc2]
    simp [hl0]

abbrev outV (R : List (En × En)) (P : List En) : List Value := R.map (fun p => p.1.1) ++ (P.map Prod.fst ++ R.map (fun p => p.2.1))
abbrev wntV (PM NM : List En) : List Value := PM.map Prod.fst ++ NM.map Prod.fst
/-- While the lists grow: those that have, the others, what they must read as, and the new ones. -/
def grL (S : Nat) (ov wv : Value) (R : List (En × En)) (P PM NM : List En) (cs : List Comp) : List Comp :=
  bxL S ov wv (outV R P) (wntV PM NM) ++ (R.map pC ++ (P.map (eC 9) ++ (PM.map (eC 9) ++ (NM.map (eC 9) ++ cs))))

structure GrOk (R : List (En × En)) (P PM NM : List En) : Prop where
  s1 : R.map (fun p => p.1.2) ++ P.map Prod.snd = PM.map Prod.snd
  s2 : R.map (fun p => p.2.2) = NM.map Prod.snd
  tx : ∀ e ∈ PM, ∃ l : List ByteArray, e.2 = txtV l ∧ l.length ≤ 1000
  tn : ∀ e ∈ NM, ∃ l : List ByteArray, e.2 = txtV l ∧ l.length ≤ 2000
  cap : ∀ p ∈ R, Cap p.1.1 ∧ Cap p.2.1

theorem GrOk.of {PA PM : List En} (h : ShOk PA PM) : GrOk [] PA PM [] := by
  refine ⟨by simpa using h.same, rfl, fun e he => ?_, fun e he => by simp at he, fun p hp => by simp at hp⟩
  have : e.2 ∈ PM.map Prod.snd := List.mem_map_of_mem he
  rw [← h.same] at this
  obtain ⟨a, ha, hae⟩ := List.mem_map.1 this
  obtain ⟨l, hl, hn⟩ := h.txt a ha
  exact ⟨l, by rw [← hae, hl], hn⟩

section
variable {S : Nat} {ov wv : Value} {R : List (En × En)} {P PM NM : List En} {cs : List Comp} {w : World}
theorem gr_box (h : All (grL S ov wv R P PM NM cs) w) : w.heap[S]? = some (.cells #[ov, wv] 32 (0, 0)) := h.blk (g := S) (vs := [ov, wv]) (t := 32) (by simp [grL, bxL])
theorem gr_o (h : All (grL S ov wv R P PM NM cs) w) : w.ownsRow 0 39 1 ov (outV R P).length (outV R P) := (h.mem (c := ownC 39 ov (outV R P)) (by simp [grL, bxL])).2.1
theorem gr_w (h : All (grL S ov wv R P PM NM cs) w) : w.ownsRow 0 39 1 wv (wntV PM NM).length (wntV PM NM) := (h.mem (c := ownC 39 wv (wntV PM NM)) (by simp [grL, bxL])).2.1
theorem gr_r (h : All (grL S ov wv R P PM NM cs) w) {p : En × En} (hp : p ∈ R) : RdV w p.1.1 p.1.2 ∧ RdV w p.2.1 p.2.2 := (h.mem (c := pC p) (by simp only [grL, List.mem_append, List.mem_map]; exact .inr (.inl ⟨p, hp, rfl⟩))).2.1
theorem gr_p (h : All (grL S ov wv R P PM NM cs) w) {e : En} (he : e ∈ P) : w.ownsRow 0 9 1 e.1 e.2.length e.2 := (h.mem (c := eC 9 e) (by simp only [grL, List.mem_append, List.mem_map]; exact .inr (.inr (.inl ⟨e, he, rfl⟩)))).2.1
theorem gr_m (h : All (grL S ov wv R P PM NM cs) w) {e : En} (he : e ∈ PM) : w.ownsRow 0 9 1 e.1 e.2.length e.2 := (h.mem (c := eC 9 e) (by simp only [grL, List.mem_append, List.mem_map]; exact .inr (.inr (.inr (.inl ⟨e, he, rfl⟩))))).2.1
theorem gr_n (h : All (grL S ov wv R P PM NM cs) w) {e : En} (he : e ∈ NM) : w.ownsRow 0 9 1 e.1 e.2.length e.2 := (h.mem (c := eC 9 e) (by simp only [grL, List.mem_append, List.mem_map]; exact .inr (.inr (.inr (.inr (.inl ⟨e, he, rfl⟩)))))).2.1

/-- At the end all read as they must. -/
theorem gr_alik (h : All (grL S ov wv R [] PM NM cs) w) (ok : GrOk R [] PM NM) : Alik w (outV R []) (wntV PM NM) ∧ (outV R []).length = (wntV PM NM).length := by
  have l1 : R.length = PM.length := by have := congrArg List.length ok.s1; simpa using this
  have l2 : R.length = NM.length := by have := congrArg List.length ok.s2; simpa using this
  refine ⟨?_, by simp; omega⟩
  intro i u m hu hm
  change (R.map (fun p => p.1.1) ++ R.map (fun p => p.2.1))[i]? = some u at hu
  change (PM.map Prod.fst ++ NM.map Prod.fst)[i]? = some m at hm
  by_cases hi : i < R.length
  · rw [List.getElem?_append_left (by simpa using hi)] at hu
    rw [List.getElem?_append_left (by simp; omega)] at hm
    rw [List.getElem?_map] at hu hm
    obtain ⟨p, hp, rfl⟩ := Option.map_eq_some_iff.1 hu
    obtain ⟨b, hb, rfl⟩ := Option.map_eq_some_iff.1 hm
    have e : p.1.2 = b.2 := by
      have := congrArg (fun l => l[i]?) ok.s1
      simpa [hp, hb] using this
    obtain ⟨l, hl, hn⟩ := ok.tx b (List.mem_of_getElem? hb)
    have h1 := (gr_r h (List.mem_of_getElem? hp)).1
    have h2 := gr_m h (List.mem_of_getElem? hb)
    rw [e, hl] at h1
    rw [hl] at h2
    exact ⟨l, Txts.of_rd h1 (ok.cap p (List.mem_of_getElem? hp)).1, Txts.of_own h2, by omega⟩
  · rw [List.getElem?_append_right (by simpa using hi)] at hu
    rw [List.getElem?_append_right (by simp; omega)] at hm
    simp only [List.length_map] at hu hm
    rw [← l1] at hm
    rw [List.getElem?_map] at hu hm
    obtain ⟨p, hp, rfl⟩ := Option.map_eq_some_iff.1 hu
    obtain ⟨b, hb, rfl⟩ := Option.map_eq_some_iff.1 hm
    have e : p.2.2 = b.2 := by
      have := congrArg (fun l => l[i - R.length]?) ok.s2
      simpa [hp, hb] using this
    obtain ⟨l, hl, hn⟩ := ok.tn b (List.mem_of_getElem? hb)
    have h1 := (gr_r h (List.mem_of_getElem? hp)).2
    have h2 := gr_n h (List.mem_of_getElem? hb)
    rw [e, hl] at h1
    rw [hl] at h2
    exact ⟨l, Txts.of_rd h1 (ok.cap p (List.mem_of_getElem? hp)).2, Txts.of_own h2, by omega⟩

theorem gr_holds (h : All (grL S ov wv R [] PM NM cs) w) (ok : GrOk R [] PM NM) (hl : R.length ≤ 1000000000000) :
    Calls Tryz.prog 21 #[.pointer (some ⟨S, 0, none⟩)] w fun e w' => e = .returned (.bool true) ∧ ∃ q, w' = w.drewN q := by
  obtain ⟨h1, h2⟩ := gr_alik h ok
  exact shHolds (gr_box h) (gr_o h) (gr_w h) h2 h1 (by simp; omega)

/-- The first of the others begins to grow. -/
theorem gr_begin {e : En} (h : All (grL S ov wv R (e :: P) PM NM cs) w) : All (extC 9 e.1 e.2 e.1 e.2 :: (bxL S ov wv (outV R (e :: P)) (wntV PM NM) ++ (R.map pC ++ (P.map (eC 9) ++ (PM.map (eC 9) ++ (NM.map (eC 9) ++ cs)))))) w := by
  refine All.ext_begin (h.perm ?_)
  have := List.perm_middle (a := eC 9 e) (l₁ := bxL S ov wv (outV R (e :: P)) (wntV PM NM) ++ R.map pC) (l₂ := P.map (eC 9) ++ (PM.map (eC 9) ++ (NM.map (eC 9) ++ cs)))
  simpa [grL, List.append_assoc, eC] using this

/-- It has grown, and both are laid by. -/
theorem gr_end {e : En} {lv mv : Value} {ll : List Value} {us' ms' : List Value} (h : All (extC 9 e.1 e.2 lv ll :: ownC 9 mv ll :: (bxL S ov wv us' ms' ++ (R.map pC ++ (P.map (eC 9) ++ (PM.map (eC 9) ++ (NM.map (eC 9) ++ cs)))))) w) (e1 : us' = outV R (e :: P) ++ [lv]) (e2 : ms' = wntV PM NM ++ [mv]) : All (grL S ov wv (R ++ [(e, (lv, ll))]) P PM (NM ++ [(mv, ll)]) cs) w := by
  have h1 := h.ext_end
  subst e1 e2
  refine h1.perm ?_
  have := perm_by 8 [[pC (e, (lv, ll))], [ownC 9 mv ll], bxL S ov wv (outV R (e :: P) ++ [lv]) (wntV PM NM ++ [mv]), R.map pC, P.map (eC 9), PM.map (eC 9), NM.map (eC 9), cs] [2, 3, 0, 4, 5, 6, 1, 7] rfl (by decide)
  simpa [grL, outV, wntV, List.append_assoc, eC, List.getD] using this

theorem GrOk.grow {e : En} {lv mv : Value} {l : List ByteArray} (ok : GrOk R (e :: P) PM NM) (hl : l.length ≤ 2000) (hc : Cap e.1) (hc2 : Cap lv) : GrOk (R ++ [(e, (lv, txtV l))]) P PM (NM ++ [(mv, txtV l)]) := by
  refine ⟨by have := ok.s1; simpa using this, by simp [ok.s2], ok.tx, fun x hx => ?_, fun p hp => ?_⟩
  · rcases List.mem_append.1 hx with hx | hx
    · exact ok.tn x hx
    · simp only [List.mem_cons, List.not_mem_nil, or_false] at hx
      subst hx
      exact ⟨l, rfl, hl⟩
  · rcases List.mem_append.1 hp with hp | hp
    · exact ok.cap p hp
    · simp only [List.mem_cons, List.not_mem_nil, or_false] at hp
      subst hp
      exact ⟨hc, hc2⟩

/-- The two lists of lists grow by one each. -/
theorem grow0 {X Y : Comp} {us ms : List Value} {v' lv : Value} {D : List Comp} {w1 : World} (A : All (ownC 39 v' (us ++ [lv]) :: blkC S [ov, wv] 32 :: X :: Y :: ownC 39 wv ms :: D) w1) : w1.cell? ⟨S, 0, none⟩ = some ov ∧ w1.frozen? ⟨S, 0, none⟩ = false ∧ All (X :: Y :: (bxL S v' wv (us ++ [lv]) ms ++ D)) (w1.setCell ⟨S, 0, none⟩ v') := by
  have eb : w1.heap[S]? = some (.cells #[ov, wv] 32 (0, 0)) := A.tail.1.2.1
  refine ⟨by rw [cell_at eb]; rfl, free_at eb 0, ?_⟩
  refine (A.swap.setBlk 0 v').perm ?_
  have := perm_by 6 [[blkC S [v', wv] 32], [ownC 39 v' (us ++ [lv])], [X], [Y], [ownC 39 wv ms], D] [2, 3, 0, 1, 4, 5] rfl (by decide)
  simpa [bxL, List.getD] using this
theorem grow1 {X Y : Comp} {us ms : List Value} {v' mv : Value} {D : List Comp} {w1 : World} (A : All (ownC 39 v' (ms ++ [mv]) :: blkC S [ov, wv] 32 :: X :: Y :: ownC 39 ov us :: D) w1) : w1.cell? ⟨S, 1, none⟩ = some wv ∧ w1.frozen? ⟨S, 1, none⟩ = false ∧ All (X :: Y :: (bxL S ov v' us (ms ++ [mv]) ++ D)) (w1.setCell ⟨S, 1, none⟩ v') := by
  have eb : w1.heap[S]? = some (.cells #[ov, wv] 32 (0, 0)) := A.tail.1.2.1
  refine ⟨by rw [cell_at eb]; rfl, free_at eb 1, ?_⟩
  refine (A.swap.setBlk 1 v').perm ?_
  have := perm_by 6 [[blkC S [ov, v'] 32], [ownC 39 v' (ms ++ [mv])], [X], [Y], [ownC 39 ov us], D] [2, 3, 0, 4, 1, 5] rfl (by decide)
  simpa [bxL, List.getD] using this
theorem take0 {X Y : Comp} {us ms : List Value} {D : List Comp} (A : All (X :: Y :: (bxL S ov wv us ms ++ D)) w) : All (ownC 39 ov us :: blkC S [ov, wv] 32 :: X :: Y :: ownC 39 wv ms :: D) w := A.perm (by
  have := perm_by 6 [[X], [Y], [blkC S [ov, wv] 32], [ownC 39 ov us], [ownC 39 wv ms], D] [3, 2, 0, 1, 4, 5] rfl (by decide)
  simpa [bxL, List.getD] using this)
theorem take1 {X Y : Comp} {us ms : List Value} {D : List Comp} (A : All (X :: Y :: (bxL S ov wv us ms ++ D)) w) : All (ownC 39 wv ms :: blkC S [ov, wv] 32 :: X :: Y :: ownC 39 ov us :: D) w := A.perm (by
  have := perm_by 6 [[X], [Y], [blkC S [ov, wv] 32], [ownC 39 ov us], [ownC 39 wv ms], D] [4, 2, 0, 1, 3, 5] rfl (by decide)
  simpa [bxL, List.getD] using this)
end
end Go.Proofs.YtkcepkehgkkkbaaGreatDoor
