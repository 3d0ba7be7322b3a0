import Derived.Test.YtagdpfghooogfaaXR2
namespace Go.Proofs.Ytagdpfghooogfaa
open Go.RowKit
set_option linter.unusedVariables false

theorem XRd.kept {w w' : World} {b : Nat} {v : Value} {B rs : List UInt8} {place : Nat} {err : Int} (h : XRd w b v B rs place err) (hb : w'.heap[b]? = w.heap[b]?) (hr : ∀ k, v.ownBlock = some k → w'.heap[k]? = w.heap[k]?) : XRd w' b v B rs place err := ⟨h.1.kept hb hr, h.2⟩

theorem XR.own_lt {w : World} {b : Nat} {v : Value} {B : List UInt8} {place : Nat} {err : Int} (h : XR w b v B place err) : ∀ k, v.ownBlock = some k → k < w.heap.size := fun k hk => (World.ownsRow.lt h.row k hk).2

theorem XRd.below {w w' : World} {b : Nat} {v : Value} {B rs : List UInt8} {place : Nat} {err : Int} (h : XRd w b v B rs place err) (hb : Below w.heap.size w w') : XRd w' b v B rs place err :=
  h.kept (hb.block b h.1.lt) (fun k hk => hb.block k (h.1.own_lt k hk))

theorem XAft.drew {w w' : World} {b : Nat} {v : Value} {B rs : List UInt8} {place : Nat} {err : Int} {r : Nat × Int} (h : XAft w w' b v B rs place err r) : XAft w w'.drew b v B rs place err r := ⟨h.1.kept rfl (fun _ _ => rfl), h.2.trans (Only.drew b w')⟩
theorem XAft.below {w w' w2 : World} {b : Nat} {v : Value} {B rs : List UInt8} {place : Nat} {err : Int} {r : Nat × Int} (h : XAft w w' b v B rs place err r) (hb : Below w'.heap.size w' w2) : XAft w w2 b v B rs place err r := ⟨h.1.below hb, h.2.trans (Only.below hb)⟩

theorem drop_cons {B : List UInt8} {place : Nat} (h : place < B.length) : B.drop place = (B.drop place).getD 0 0 :: B.drop (place + 1) := by
  have e : (B.drop place).getD 0 0 = B[place] := by
    rw [List.getD_eq_getElem?_getD, List.getElem?_drop, Nat.add_zero, List.getElem?_eq_getElem h]
    rfl
  rw [e]
  exact List.drop_eq_getElem_cons h

set_option maxHeartbeats 800000 in
set_option maxRecDepth 1000000 in
theorem xErr_any {w : World} {b : Nat} {v : Value} {B rs : List UInt8} {place : Nat} {err : Int} (h : XRd w b v B rs place err) :
    Calls Try.prog 75 #[.pointer (some ⟨b, 0, none⟩)] w fun e w' => e = .returned (.tuple #[.int .i64 err, .int .i64 (place : Int)]) ∧ ∃ q, w' = w.drewN q := by
  have c1 : w.cell? ⟨b, 1, none⟩ = some (.int .i64 (place : Int)) := by rw [cell_at h.1.box]; rfl
  have c2 : w.cell? ⟨b, 2, none⟩ = some (.int .i64 err) := by rw [cell_at h.1.box]; rfl
  clear h
  go_enter Try.func75, Try.ntmps75
  go_wp2
  go_region
  all_goals go_wp2
  all_goals go_ret2
  all_goals exact ⟨rfl, 1, rfl⟩

/-- What Fail leaves. -/
def failR (rs : List UInt8) (err e0 : Int) : List UInt8 × Int := if err = 0 then (if e0 = 0 then (rs, 0) else ([], e0)) else (rs, err)

set_option maxHeartbeats 1600000 in
set_option maxRecDepth 1000000 in
theorem xClose_any {w : World} {b : Nat} {v : Value} {B rs : List UInt8} {place : Nat} {err : Int} (h : XRd w b v B rs place err) (hlen : B.length ≤ 140737488355328) :
    Calls Try.prog 64 #[.pointer (some ⟨b, 0, none⟩)] w fun e w' => e = .returned (.int .i64 (if rs = [] then err else keepE err 15)) ∧ XRd w' b v B [] place (if rs = [] then err else keepE err 15) ∧ Only b w w' := by
  obtain ⟨ao, c, hf⟩ := h.1.form
  subst hf
  have c0 : w.cell? ⟨b, 0, none⟩ = some (.slice ao B.length c) := by rw [cell_at h.1.box]; rfl
  have c1 : w.cell? ⟨b, 1, none⟩ = some (.int .i64 (place : Int)) := by rw [cell_at h.1.box]; rfl
  have c2 : w.cell? ⟨b, 2, none⟩ = some (.int .i64 err) := by rw [cell_at h.1.box]; rfl
  have f2 := free_at h.1.box 2
  by_cases he : err = 0
  · subst he
    have hd := h.drop
    subst hd
    by_cases hlt : place < B.length
    · have hne : B.drop place ≠ [] := by rw [Ne, List.drop_eq_nil_iff]; omega
      have R : ∀ q, Hid (XRd ((w.drewN q).setCell ⟨b, 2, none⟩ (.int .i64 15)) b (.slice ao B.length c) B [] place 15) := fun q => ⟨(h.1.drewN q).set 2 _ _ _ (by simp) h.1.le, by simp [rsX]⟩
      rw [if_neg hne]
      have hg1 : (place : Int) < (B.length : Int) := by omega
      clear h hne
      go_enter Try.func64, Try.ntmps64
      go_wp2_with fail
      go_quiet (fail)
      go_wp2
      go_ret
      exact ⟨rfl, (R _).out, (Only.drewN b w _).trans (Only.setCell _ _ _)⟩
    · have hne : B.drop place = [] := by rw [List.drop_eq_nil_iff]; omega
      have R : ∀ q, Hid (XRd (w.drewN q) b (.slice ao B.length c) B [] place 0) := fun q => ⟨h.1.drewN q, by simpa [rsX] using hne⟩
      rw [if_pos hne]
      have hg1 : decide ((place : Int) < (B.length : Int)) = false := by simp; omega
      have hg2 : decide (place < B.length) = false := by simp; omega
      clear h hne
      go_enter Try.func64, Try.ntmps64
      go_wp2_with fail
      go_quiet (fail)
      go_wp2
      go_ret
      exact ⟨rfl, (R _).out, Only.drewN b w _⟩
  · have hn := h.nil he
    subst hn
    rw [if_pos rfl]
    have hb : (err == 0) = false := by simpa using he
    have R : ∀ q, Hid (XRd (w.drewN q) b (.slice ao B.length c) B [] place err) := fun q => ⟨h.1.drewN q, h.2⟩
    clear h he
    go_enter Try.func64, Try.ntmps64
    go_wp2_with fail
    go_quiet (fail)
    go_wp2
    go_ret
    exact ⟨rfl, (R _).out, Only.drewN b w _⟩

end Go.Proofs.Ytagdpfghooogfaa
