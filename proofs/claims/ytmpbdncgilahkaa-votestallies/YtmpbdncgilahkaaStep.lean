import Derived.Test.YtmpbdncgilahkaaMade
import Derived.Test.YtmpbdncgilahkaaAllW
import Derived.Test.YtmpbdncgilahkaaPick
import Derived.Deep.RegionHeld3
namespace Go.Proofs.Ytmpbdncgilahkaa
open Go.RowKit
set_option linter.unusedVariables false

/-- The boxes of a step: the thing, the step itself; and of what was there only the thing's blocks have turned. -/
structure SB (w : World) (t : Tg) (k o who v : Int) (W : World) : Prop where
  th : W.heap[w.heap.size]? = some (.cells #[.pointer (some ⟨t.a, 0, none⟩), .pointer (some ⟨t.b, 0, none⟩), .pointer (some ⟨t.f.r, 0, none⟩)] 42 (0, 0))
  st : W.heap[w.heap.size + 1]? = some (.cells #[.int .i64 k, .int .i64 o, .int .i64 who, .int .i64 v] 47 (0, 0))
  fr : Fr (blk5 t.a t.b t.f) w W

section
variable {w W W' : World} {t : Tg} {k o who v : Int}
theorem SB.a (h : SB w t k o who v W) : W.cell? ⟨w.heap.size, 0, none⟩ = some (.pointer (some ⟨t.a, 0, none⟩)) := by rw [cell_at h.th]; rfl
theorem SB.b (h : SB w t k o who v W) : W.cell? ⟨w.heap.size, 1, none⟩ = some (.pointer (some ⟨t.b, 0, none⟩)) := by rw [cell_at h.th]; rfl
theorem SB.r (h : SB w t k o who v W) : W.cell? ⟨w.heap.size, 2, none⟩ = some (.pointer (some ⟨t.f.r, 0, none⟩)) := by rw [cell_at h.th]; rfl
theorem SB.ck (h : SB w t k o who v W) : W.cell? ⟨w.heap.size + 1, 0, none⟩ = some (.int .i64 k) := by rw [cell_at h.st]; rfl
theorem SB.cw (h : SB w t k o who v W) : W.cell? ⟨w.heap.size + 1, 2, none⟩ = some (.int .i64 who) := by rw [cell_at h.st]; rfl
theorem SB.cv (h : SB w t k o who v W) : W.cell? ⟨w.heap.size + 1, 3, none⟩ = some (.int .i64 v) := by rw [cell_at h.st]; rfl
theorem SB.turn (h : SB w t k o who v W) (hl : ∀ j ∈ blk5 t.a t.b t.f, j < w.heap.size) (hf : Fr (blk5 t.a t.b t.f) W W') : SB w t k o who v W' :=
  ⟨(hf.block _ (Array.getElem?_eq_some_iff.1 h.th).1 (fun e => by have := hl _ e; omega)).trans h.th, (hf.block _ (Array.getElem?_eq_some_iff.1 h.st).1 (fun e => by have := hl _ e; omega)).trans h.st, h.fr.trans' hf⟩
theorem SB.later (h : SB w t k o who v W) (hb : Below W.heap.size W W') : SB w t k o who v W' :=
  ⟨(hb.block _ (Array.getElem?_eq_some_iff.1 h.th).1).trans h.th, (hb.block _ (Array.getElem?_eq_some_iff.1 h.st).1).trans h.st, h.fr.trans' (Fr.below hb)⟩
theorem SB.start : SB w t k o who v ((w.alloc (.cells #[.pointer (some ⟨t.a, 0, none⟩), .pointer (some ⟨t.b, 0, none⟩), .pointer (some ⟨t.f.r, 0, none⟩)] 42)).alloc (.cells #[.int .i64 k, .int .i64 o, .int .i64 who, .int .i64 v] 47)) := by
  refine ⟨(Below.heap_alloc _ _ _ (by simp)).trans (heap_alloc_new w _), ?_, Fr.below (((Below.refl _ w).alloc (Nat.le_refl _) _).alloc (by simp) _)⟩
  have := heap_alloc_new (w.alloc (.cells #[.pointer (some ⟨t.a, 0, none⟩), .pointer (some ⟨t.b, 0, none⟩), .pointer (some ⟨t.f.r, 0, none⟩)] 42)) (.cells #[.int .i64 k, .int .i64 o, .int .i64 who, .int .i64 v] 47)
  rw [World.size_alloc] at this
  exact this
end

abbrev stV (k o who v : Int) : Value := .agg #[.int .i64 k, .int .i64 o, .int .i64 who, .int .i64 v]
/-- What a call on a thing leaves: the same blocks, another state. -/
def Kept (w : World) (t : Tg) (w' : World) : Prop := ∃ f : Rfs, Th w' { t with f := f } ∧ f.r = t.f.r ∧ f.s = t.f.s ∧ f.p = t.f.p ∧ f.n = t.f.n ∧ Fr (blk5 t.a t.b t.f) w w'

theorem kept_same {w w' : World} {t : Tg} (h : Th w' t) (hf : Fr (blk5 t.a t.b t.f) w w') : Kept w t w' := ⟨t.f, h, rfl, rfl, rfl, rfl, hf⟩

section
variable {w : World} {t : Tg} {o who v : Int}

set_option maxRecDepth 1000000 in
theorem step_drop_bad (h : Th w t) (hw : who < 0 ∨ (t.f.n : Int) ≤ who) : Calls Try.prog 25 #[thV t, stV 3 o who v] w fun e w' => e = .returned (.bool true) ∧ Kept w t w' := by
  have hS := SB.start (w := w) (t := t) (k := 3) (o := o) (who := who) (v := v)
  have hP := h.later (((Below.refl _ w).alloc (Nat.le_refl _) (.cells #[.pointer (some ⟨t.a, 0, none⟩), .pointer (some ⟨t.b, 0, none⟩), .pointer (some ⟨t.f.r, 0, none⟩)] 42)).alloc (by simp) (.cells #[.int .i64 3, .int .i64 o, .int .i64 who, .int .i64 v] 47))
  have HS := hid hS
  have HP := hid hP
  have HW := hid hw
  clear h hS hP hw
  go_enter Try.func25, Try.ntmps25
  go_wp2_with fail
  refine (DropI_bad HP.out.ta HP.out.one HP.out.seven HW.out).mono ?_
  rintro e w1 ⟨rfl, rfl⟩
  go_wp2_with fail
  refine (DropS_bad HP.out.tb HP.out.one HP.out.seven HW.out).mono ?_
  rintro e w1 ⟨rfl, rfl⟩
  go_wp2_with fail
  refine (RDrop_bad HP.out.rf HW.out).mono ?_
  rintro e w1 ⟨rfl, rfl⟩
  go_wp2
  go_ret
  exact ⟨rfl, kept_same HP.out HS.out.fr⟩

set_option maxRecDepth 1000000 in
theorem step_drop_ok {k : Nat} (h : Th w t) (hk : k < t.f.n) : Calls Try.prog 25 #[thV t, stV 3 o k v] w fun e w' => e = .returned (.bool true) ∧ Kept w t w' := by
  have hS := SB.start (w := w) (t := t) (k := 3) (o := o) (who := k) (v := v)
  have hP := (h.later (((Below.refl _ w).alloc (Nat.le_refl _) (.cells #[.pointer (some ⟨t.a, 0, none⟩), .pointer (some ⟨t.b, 0, none⟩), .pointer (some ⟨t.f.r, 0, none⟩)] 42)).alloc (by simp) (.cells #[.int .i64 3, .int .i64 o, .int .i64 k, .int .i64 v] 47))).pt
  have hl := h.pt.lt
  have hls := h.ls
  obtain ⟨y, hy⟩ : ∃ y, t.f.said[k]? = some y := ⟨_, List.getElem?_eq_getElem (by rw [h.rf.lsaid]; exact hk)⟩
  obtain ⟨b, hb⟩ : ∃ b, t.f.spoke[k]? = some b := ⟨_, List.getElem?_eq_getElem (by rw [h.rf.lspoke]; exact hk)⟩
  have ho := hid (wsOf_get hy hb)
  have hot := hid (wsT_get hy hb)
  have hks : k < t.f.said.length := by rw [h.rf.lsaid]; exact hk
  have e1 : (bif b then some y else none : Option Int).isSome = b := by cases b <;> rfl
  have e2 : ((bif b then some y else none : Option Int).map txt).isSome = b := by cases b <;> rfl
  have HB := hid hb
  have HK := hid hk
  have HL := hid hl
  have HLS := hid hls
  have HKS := hid hks
  have HS := hid hS
  have HP := hid hP
  clear h hS hP hy hb hk hl hls hks
  go_enter Try.func25, Try.ntmps25
  go_wp2_with fail
  refine (PDropI HP.out HK.out ho.out).mono ?_
  rintro e w1 ⟨rfl, hP1, hf1⟩
  rw [e1]
  have S1 := HS.out.turn HL.out hf1
  have cb := S1.b
  have cw := S1.cw
  have HP := hid hP1
  have HS := hid S1
  clear hP1 hf1 S1
  go_wp2_with fail
  refine (PDropS HP.out HK.out hot.out).mono ?_
  rintro e w2 ⟨rfl, hP2, hf2⟩
  rw [e2]
  have S2 := HS.out.turn HL.out hf2
  have cr := S2.r
  have cw := S2.cw
  have HP := hid hP2
  have HS := hid S2
  clear hP2 hf2 S2
  go_wp2_with fail
  refine (PDropR HP.out HK.out HB.out).mono ?_
  rintro e w3 ⟨rfl, hP3, hf3⟩
  have S3 := HS.out.turn HL.out hf3
  rw [wsOf_drop HLS.out HKS.out, wsT_drop HLS.out HKS.out] at hP3
  have HT := hid (show Th w3 (t.drop k) from Pt.th (t := t.drop k) hP3)
  have HS := hid S3
  clear hP3 hf3 S3 cb cw cr
  go_wp2
  go_ret
  exact ⟨by cases b <;> rfl, _, HT.out, rfl, rfl, rfl, rfl, HS.out.fr⟩
end
end Go.Proofs.Ytmpbdncgilahkaa
