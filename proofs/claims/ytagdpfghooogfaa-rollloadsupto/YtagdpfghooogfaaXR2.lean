import Derived.Test.YtagdpfghooogfaaXR
namespace Go.Proofs.Ytagdpfghooogfaa
open Go.RowKit
set_option linter.unusedVariables false

/-- The document's reader, with what it has left. -/
def XRd (w : World) (b : Nat) (v : Value) (B rs : List UInt8) (place : Nat) (err : Int) : Prop := XR w b v B place err ∧ rsX B place err = rs

/-- Behind an item. -/
def XAft (w w' : World) (b : Nat) (v : Value) (B rs : List UInt8) (place : Nat) (err : Int) (r : Nat × Int) : Prop :=
  XRd w' b v B (aft rs place err r.1 r.2).1 (aft rs place err r.1 r.2).2.1 (aft rs place err r.1 r.2).2.2 ∧ Only b w w'

section
variable {w w' : World} {b : Nat} {v : Value} {B rs : List UInt8} {place : Nat} {err : Int}

theorem XR.lt (h : XR w b v B place err) : b < w.heap.size := (Array.getElem?_eq_some_iff.1 h.box).1

theorem XR.kept (h : XR w b v B place err) (hb : w'.heap[b]? = w.heap[b]?) (hr : ∀ k, v.ownBlock = some k → w'.heap[k]? = w.heap[k]?) : XR w' b v B place err := by
  refine ⟨by rw [hb]; exact h.box, ⟨h.row.1, ?_⟩, h.apart, h.le⟩
  rcases h.row.2 with hn | ⟨g, cap, cur, rfl, hg, hgg, rest⟩
  · exact Or.inl hn
  · exact Or.inr ⟨g, cap, cur, rfl, hg, by rw [hr g rfl]; exact hgg, rest⟩

theorem XR.drewN (h : XR w b v B place err) (q : Nat) : XR (w.drewN q) b v B place err := h.kept rfl (fun _ _ => rfl)

theorem XR.set (h : XR w b v B place err) (j : Nat) (u : Value) (place' : Nat) (err' : Int) (hu : #[v, .int .i64 (place : Int), .int .i64 err].setIfInBounds j u = #[v, .int .i64 (place' : Int), .int .i64 err']) (hp : place' ≤ B.length) : XR (w.setCell ⟨b, j, none⟩ u) b v B place' err' := by
  refine ⟨?_, ⟨h.row.1, ?_⟩, h.apart, hp⟩
  · rw [heap_setCell_same h.box, hu]
  · rcases h.row.2 with hn | ⟨g, cap, cur, rfl, hg, hgg, rest⟩
    · exact Or.inl hn
    · refine Or.inr ⟨g, cap, cur, rfl, hg, ?_, rest⟩
      rw [Below.heap_setCell _ _ _ _ (by intro e; exact h.apart (by simp [Value.ownBlock, e]))]
      exact hgg

/-- A good end. -/
theorem XR.went (h : XR w b v B place 0) (size : Nat) (q : Nat) (hs : size ≤ (B.drop place).length) (p : Int) (hp : p = (place : Int) + (size : Int)) : XAft w ((w.drewN q).setCell ⟨b, 1, none⟩ (.int .i64 p)) b v B (B.drop place) place 0 (size, 0) := by
  rw [List.length_drop] at hs
  have hl := h.le
  refine ⟨⟨(h.drewN q).set 1 _ _ _ ?_ ?_, ?_⟩, (Only.drewN b w q).trans (Only.setCell _ _ _)⟩
  · subst hp
    simp [aft]
  · simp [aft]; omega
  · simp [aft, rsX]

/-- A bad one. -/
theorem XR.bad (h : XR w b v B place 0) (size : Nat) (q : Nat) (e0 : Int) (he : e0 ≠ 0) : XAft w ((w.drewN q).setCell ⟨b, 2, none⟩ (.int .i64 e0)) b v B (B.drop place) place 0 (size, e0) := by
  refine ⟨⟨(h.drewN q).set 2 _ _ _ ?_ ?_, ?_⟩, (Only.drewN b w q).trans (Only.setCell _ _ _)⟩
  · simp [aft, he, keepE]
  · simpa [aft, he] using h.le
  · simp [aft, he, rsX, keepE]

/-- Broken before. -/
theorem XRd.dead (h : XRd w b v B rs place err) (he : err ≠ 0) (size : Nat) (q : Nat) (e0 : Int) (he0 : e0 ≠ 0) : XAft w (w.drewN q) b v B rs place err (size, e0) := by
  refine ⟨⟨?_, ?_⟩, Only.drewN b w q⟩
  · simpa [aft, he, he0, keepE] using h.1.drewN q
  · simp [aft, he, he0, rsX, keepE]

theorem XRd.nil (h : XRd w b v B rs place err) (he : err ≠ 0) : rs = [] := by rw [← h.2]; simp [rsX, he]
theorem XRd.drop (h : XRd w b v B rs place 0) : rs = B.drop place := by rw [← h.2]; simp [rsX]
end

theorem XAft.eta {w w' : World} {b : Nat} {v : Value} {B rs : List UInt8} {place : Nat} {err : Int} {r s : Nat × Int} (h : XAft w w' b v B rs place err r) (e : r = s) : XAft w w' b v B rs place err s := by subst e; exact h

set_option maxHeartbeats 1600000 in
set_option maxRecDepth 1000000 in
theorem xNum_any {w : World} {b : Nat} {v : Value} {B rs : List UInt8} {place : Nat} {err : Int} (h : XRd w b v B rs place err) (hlen : B.length ≤ 140737488355328) (most : Int) :
    Calls Try.prog 62 #[.pointer (some ⟨b, 0, none⟩), .int .i64 most] w fun e w' => e = .returned (.int .i64 (numR rs most 13).1) ∧ XAft w w' b v B rs place err (numR rs most 13).2 := by
  have c1 : w.cell? ⟨b, 1, none⟩ = some (.int .i64 (place : Int)) := by rw [cell_at h.1.box]; rfl
  have c2 : w.cell? ⟨b, 2, none⟩ = some (.int .i64 err) := by rw [cell_at h.1.box]; rfl
  have f1 := free_at h.1.box 1
  have f2 := free_at h.1.box 2
  by_cases he : err = 0
  · subst he
    have hd := h.drop
    subst hd
    have HX := hid h.1
    have hle := h.1.le
    have LB := look_bound 9 127 (by omega) (by omega) (by omega) (B.drop place) 0 0 (by omega) (by simp)
    have e0 := numR_eq (B.drop place) most 13
    have HG := hid (xlook_any h.1 9 127 8 127 (by omega) rfl (by omega) (by omega) (by omega) (by omega) hlen)
    clear h
    generalize look 9 127 0 (B.drop place) 0 = lk at LB e0 HG
    obtain ⟨n, sz, er⟩ := lk
    simp only at LB e0 HG
    obtain ⟨_, hn, hsz, hz, her, _⟩ := LB
    have hn' := hn (by omega)
    have hsz' : sz ≤ (B.drop place).length := by omega
    have hsz2 : sz ≤ B.length - place := by rw [List.length_drop] at hsz'; exact hsz'
    clear hn hsz
    have HE := hid e0
    have HZ := hid hz
    clear e0 hz
    go_enter Try.func62, Try.ntmps62
    go_wp2_with fail
    refine Calls.mono HG.out ?_
    rintro e w1 ⟨rfl, q, rfl⟩
    by_cases hz : er = 0
    · subst hz
      by_cases hm : most < (n : Int)
      · have F : Hid (numR (B.drop place) most 13 = (0, sz, 13)) := by rw [HE.out]; simp [hm, Hid]
        go_wp2
        go_ret
        rw [F.out]
        exact ⟨rfl, HX.out.bad sz q 13 (by omega)⟩
      · have F : Hid (numR (B.drop place) most 13 = ((n : Int), sz, 0)) := by rw [HE.out]; simp [hm, Hid]
        go_wp2
        go_ret
        rw [F.out]
        exact ⟨rfl, HX.out.went sz q hsz' _ rfl⟩
    · have F : Hid (numR (B.drop place) most 13 = (0, sz, (er : Int))) := by rw [HE.out]; simp [hz, Hid]
      have hb : ((er : Int) == 0) = false := by simp; omega
      have hb' : ((er : Int) != 0) = true := by simp; omega
      have hz' : (er : Int) ≠ 0 := by omega
      have HZ' := hid hz'
      clear hz hz'
      go_wp2
      go_ret
      rw [F.out]
      exact ⟨rfl, HX.out.bad sz q er HZ'.out⟩
  · have hb : (err != 0) = true := by simpa using he
    have hn := h.nil he
    subst hn
    have F : Hid (numR [] most 13 = (0, 0, 10)) := by simp [numR, look, Hid]
    have R := hid (h.dead he 0 0 10 (by omega))
    clear h he
    go_enter Try.func62, Try.ntmps62
    go_wp2
    go_ret
    rw [F.out]
    exact ⟨rfl, R.out⟩

end Go.Proofs.Ytagdpfghooogfaa
