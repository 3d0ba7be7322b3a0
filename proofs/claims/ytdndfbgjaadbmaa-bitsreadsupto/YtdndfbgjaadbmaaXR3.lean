import Derived.Test.YtdndfbgjaadbmaaXR2
namespace Go.Proofs.Ytdndfbgjaadbmaa
open Go.RowKit
set_option linter.unusedVariables false

theorem XRd.kept {w w' : World} {b : Nat} {v : Value} {B rs : List UInt8} {place : Nat} {err : Int} (h : XRd w b v B rs place err) (hb : w'.heap[b]? = w.heap[b]?) (hr : ∀ k, v.ownBlock = some k → w'.heap[k]? = w.heap[k]?) : XRd w' b v B rs place err := ⟨h.1.kept hb hr, h.2⟩

theorem XR.own_lt {w : World} {b : Nat} {v : Value} {B : List UInt8} {place : Nat} {err : Int} (h : XR w b v B place err) : ∀ k, v.ownBlock = some k → k < w.heap.size := fun k hk => (World.ownsRow.lt h.row k hk).2

theorem XRd.below {w w' : World} {b : Nat} {v : Value} {B rs : List UInt8} {place : Nat} {err : Int} (h : XRd w b v B rs place err) (hb : Below w.heap.size w w') : XRd w' b v B rs place err :=
  h.kept (hb.block b h.1.lt) (fun k hk => hb.block k (h.1.own_lt k hk))

theorem XAft.drew {w w' : World} {b : Nat} {v : Value} {B rs : List UInt8} {place : Nat} {err : Int} {r : Nat × Int} (h : XAft w w' b v B rs place err r) : XAft w w'.drew b v B rs place err r := ⟨h.1.kept rfl (fun _ _ => rfl), h.2.trans (Only.drew b w')⟩
theorem XAft.below {w w' w2 : World} {b : Nat} {v : Value} {B rs : List UInt8} {place : Nat} {err : Int} {r : Nat × Int} (h : XAft w w' b v B rs place err r) (hb : Below w'.heap.size w' w2) : XAft w w2 b v B rs place err r := ⟨h.1.below hb, h.2.trans (Only.below hb)⟩

theorem drop_cons {B : List UInt8} {place : Nat} (h : place < B.length) : B.drop place = (B.drop place).getD 0 0 :: B.drop (place + 1) := by
  have e : (B.drop place).getD 0 0 = B[place] := by
    rw [List.getD_eq_getElem?_getD, List.getElem?_drop, Nat.add_zero, List.getElem?_eq_getElem h]
    rfl
  rw [e]
  exact List.drop_eq_getElem_cons h

set_option maxHeartbeats 1600000 in
set_option maxRecDepth 1000000 in
theorem xBool_any {w : World} {b : Nat} {v : Value} {B rs : List UInt8} {place : Nat} {err : Int} (h : XRd w b v B rs place err) (hlen : B.length ≤ 140737488355328) :
    Calls Try.prog 50 #[.pointer (some ⟨b, 0, none⟩)] w fun e w' => e = .returned (.bool (truthR rs).1) ∧ XAft w w' b v B rs place err (truthR rs).2 := by
  obtain ⟨ao, c, hf⟩ := h.1.form
  subst hf
  have c0 : w.cell? ⟨b, 0, none⟩ = some (.slice ao B.length c) := by rw [cell_at h.1.box]; rfl
  have c1 : w.cell? ⟨b, 1, none⟩ = some (.int .i64 (place : Int)) := by rw [cell_at h.1.box]; rfl
  have c2 : w.cell? ⟨b, 2, none⟩ = some (.int .i64 err) := by rw [cell_at h.1.box]; rfl
  have f1 := free_at h.1.box 1
  have f2 := free_at h.1.box 2
  by_cases he : err = 0
  · subst he
    have hd := h.drop
    subst hd
    have HX := hid h.1
    have hle := h.1.le
    by_cases hlt : place < B.length
    · obtain ⟨g, rfl, hc⟩ := h.1.byte 0 (by omega)
      have hgb : g ≠ b := fun e => h.1.apart (by simp [Value.ownBlock, e])
      have hcons := drop_cons hlt
      obtain ⟨x, hx⟩ : ∃ x, x = (B.drop place).getD 0 0 := ⟨_, rfl⟩
      rw [← hx] at hc hcons
      have hx2 : x.toNat < 256 := x.toNat_lt
      have HT : Hid (truthR (B.drop place) = if 1 < x.toNat then (false, 0, 12) else (x.toNat == 1, 1, 0)) := by rw [hcons, truthR]; exact hid rfl
      have HS : Hid (1 ≤ (B.drop place).length) := by rw [hcons]; simp [Hid]
      clear h hx hcons
      rw [Nat.add_zero] at hc
      obtain ⟨y, hy⟩ : ∃ y, y = x.toNat := ⟨_, rfl⟩
      rw [← hy] at hc hx2 HT
      clear hy
      have hg1 : ¬ ((B.length : Int) ≤ (place : Int)) := by omega
      have hg2 : (place : Int) < (B.length : Int) := by omega
      go_enter Try.func50, Try.ntmps50
      go_wp2
      go_region
      go_wp2
      go_region
      clear hg1
      by_cases hy1 : 1 < y
      · have hb1 : (1 : Int) < (y : Int) := by omega
        have F : Hid (truthR (B.drop place) = (false, 0, 12)) := by rw [HT.out, if_pos hy1]; exact hid rfl
        go_wp2
        go_ret
        rw [F.out]
        exact ⟨rfl, HX.out.bad 0 2 12 (by omega)⟩
      · have hb1 : decide ((1 : Int) < (y : Int)) = false := by simp; omega
        have F : Hid (truthR (B.drop place) = (y == 1, 1, 0)) := by rw [HT.out, if_neg hy1]; exact hid rfl
        have R : Hid (XAft w (w.setCell ⟨b, 1, none⟩ (.int .i64 ((place : Int) + 1))) b (.slice (some ⟨g, 0, none⟩) B.length c) B (B.drop place) place 0 (1, 0)) := HX.out.went 1 0 HS.out ((place : Int) + 1) rfl
        have q0 : (w.setCell ⟨b, 1, none⟩ (.int .i64 ((place : Int) + 1))).cell? ⟨b, 0, none⟩ = some (.slice (some ⟨g, 0, none⟩) B.length c) := by rw [cell_at R.out.1.1.box]; rfl
        have q1 : (w.setCell ⟨b, 1, none⟩ (.int .i64 ((place : Int) + 1))).cell? ⟨b, 1, none⟩ = some (.int .i64 ((place : Int) + 1)) := by rw [cell_at R.out.1.1.box]; simp [aft]
        have q2 : (w.setCell ⟨b, 1, none⟩ (.int .i64 ((place : Int) + 1))).cell? ⟨g, place, none⟩ = some (.int .u8 (y : Int)) := by
          rw [World.cell?_of_block (w := w) (Below.heap_setCell _ _ _ _ (by simpa using hgb))]
          exact hc
        go_wp2
        go_region
        go_wp2
        go_ret
        rw [F.out]
        have hyy : ((y : Int) == 1) = (y == 1) := by rw [Bool.eq_iff_iff]; simp; omega
        exact ⟨by rw [← hyy]; rfl, R.out.drew.drew.drew⟩
    · have F : Hid (truthR (B.drop place) = (false, 0, 10)) := by rw [List.drop_eq_nil_of_le (by omega), truthR]; exact hid rfl
      have hg1 : (B.length : Int) ≤ (place : Int) := by omega
      clear h
      go_enter Try.func50, Try.ntmps50
      go_wp2
      go_region
      go_wp2
      go_ret
      rw [F.out]
      exact ⟨rfl, HX.out.bad 0 1 10 (by omega)⟩
  · have hb : (err != 0) = true := by simpa using he
    have hn := h.nil he
    subst hn
    have F : Hid (truthR [] = (false, 0, 10)) := by simp [truthR, Hid]
    have R := hid (h.dead he 0 0 10 (by omega))
    clear h he
    go_enter Try.func50, Try.ntmps50
    go_wp2
    go_ret
    rw [F.out]
    exact ⟨rfl, R.out⟩

set_option maxHeartbeats 800000 in
set_option maxRecDepth 1000000 in
theorem xErr_any {w : World} {b : Nat} {v : Value} {B rs : List UInt8} {place : Nat} {err : Int} (h : XRd w b v B rs place err) :
    Calls Try.prog 25 #[.pointer (some ⟨b, 0, none⟩)] w fun e w' => e = .returned (.tuple #[.int .i64 err, .int .i64 (place : Int)]) ∧ ∃ q, w' = w.drewN q := by
  have c1 : w.cell? ⟨b, 1, none⟩ = some (.int .i64 (place : Int)) := by rw [cell_at h.1.box]; rfl
  have c2 : w.cell? ⟨b, 2, none⟩ = some (.int .i64 err) := by rw [cell_at h.1.box]; rfl
  clear h
  go_enter Try.func25, Try.ntmps25
  go_wp2
  go_region
  all_goals go_wp2
  all_goals go_ret2
  all_goals exact ⟨rfl, 1, rfl⟩

/-- What Fail leaves. -/
def failR (rs : List UInt8) (err e0 : Int) : List UInt8 × Int := if err = 0 then (if e0 = 0 then (rs, 0) else ([], e0)) else (rs, err)

set_option maxHeartbeats 800000 in
set_option maxRecDepth 1000000 in
theorem xFail_any {w : World} {b : Nat} {v : Value} {B rs : List UInt8} {place : Nat} {err : Int} (h : XRd w b v B rs place err) (e0 : Int) :
    Calls Try.prog 54 #[.pointer (some ⟨b, 0, none⟩), .int .i64 e0] w fun e w' => e = .returned (.tuple #[]) ∧ XRd w' b v B (failR rs err e0).1 place (failR rs err e0).2 ∧ Only b w w' := by
  have c2 : w.cell? ⟨b, 2, none⟩ = some (.int .i64 err) := by rw [cell_at h.1.box]; rfl
  have f2 := free_at h.1.box 2
  by_cases he : err = 0
  · subst he
    have hd := h.drop
    subst hd
    have R : Hid (XRd (w.setCell ⟨b, 2, none⟩ (.int .i64 e0)) b v B (failR (B.drop place) 0 e0).1 place (failR (B.drop place) 0 e0).2) := by
      refine ⟨h.1.set 2 _ _ _ ?_ h.1.le, ?_⟩
      · by_cases h0 : e0 = 0 <;> simp [failR, h0]
      · by_cases h0 : e0 = 0 <;> simp [failR, h0, rsX]
    clear h
    go_enter Try.func54, Try.ntmps54
    go_wp2
    go_end0
    exact ⟨rfl, R.out, Only.setCell _ _ _⟩
  · have hb : (err == 0) = false := by simpa using he
    have R : Hid (XRd w b v B (failR rs err e0).1 place (failR rs err e0).2) := by
      have e : failR rs err e0 = (rs, err) := by simp [failR, he]
      rw [e]
      exact h
    clear h he
    go_enter Try.func54, Try.ntmps54
    go_wp2
    go_end0
    exact ⟨rfl, R.out, Only.refl _ _⟩

set_option maxHeartbeats 1600000 in
set_option maxRecDepth 1000000 in
theorem xClose_any {w : World} {b : Nat} {v : Value} {B rs : List UInt8} {place : Nat} {err : Int} (h : XRd w b v B rs place err) (hlen : B.length ≤ 140737488355328) :
    Calls Try.prog 55 #[.pointer (some ⟨b, 0, none⟩)] w fun e w' => e = .returned (.int .i64 (if rs = [] then err else keepE err 15)) ∧ XRd w' b v B [] place (if rs = [] then err else keepE err 15) ∧ Only b w w' := by
  obtain ⟨ao, c, hf⟩ := h.1.form
  subst hf
  have c0 : w.cell? ⟨b, 0, none⟩ = some (.slice ao B.length c) := by rw [cell_at h.1.box]; rfl
  have c1 : w.cell? ⟨b, 1, none⟩ = some (.int .i64 (place : Int)) := by rw [cell_at h.1.box]; rfl
  have c2 : w.cell? ⟨b, 2, none⟩ = some (.int .i64 err) := by rw [cell_at h.1.box]; rfl
  have f2 := free_at h.1.box 2
  by_cases he : err = 0
  · subst he
    have hd := h.drop
    subst hd
    by_cases hlt : place < B.length
    · have hne : B.drop place ≠ [] := by rw [Ne, List.drop_eq_nil_iff]; omega
      have R : ∀ q, Hid (XRd ((w.drewN q).setCell ⟨b, 2, none⟩ (.int .i64 15)) b (.slice ao B.length c) B [] place 15) := fun q => ⟨(h.1.drewN q).set 2 _ _ _ (by simp) h.1.le, by simp [rsX]⟩
      rw [if_neg hne]
      have hg1 : (place : Int) < (B.length : Int) := by omega
      clear h hne
      go_enter Try.func55, Try.ntmps55
      go_wp2_with fail
      go_quiet (fail)
      go_wp2
      go_ret
      exact ⟨rfl, (R _).out, (Only.drewN b w _).trans (Only.setCell _ _ _)⟩
    · have hne : B.drop place = [] := by rw [List.drop_eq_nil_iff]; omega
      have R : ∀ q, Hid (XRd (w.drewN q) b (.slice ao B.length c) B [] place 0) := fun q => ⟨h.1.drewN q, by simpa [rsX] using hne⟩
      rw [if_pos hne]
      have hg1 : decide ((place : Int) < (B.length : Int)) = false := by simp; omega
      have hg2 : decide (place < B.length) = false := by simp; omega
      clear h hne
      go_enter Try.func55, Try.ntmps55
      go_wp2_with fail
      go_quiet (fail)
      go_wp2
      go_ret
      exact ⟨rfl, (R _).out, Only.drewN b w _⟩
  · have hn := h.nil he
    subst hn
    rw [if_pos rfl]
    have hb : (err == 0) = false := by simpa using he
    have R : ∀ q, Hid (XRd (w.drewN q) b (.slice ao B.length c) B [] place err) := fun q => ⟨h.1.drewN q, h.2⟩
    clear h he
    go_enter Try.func55, Try.ntmps55
    go_wp2_with fail
    go_quiet (fail)
    go_wp2
    go_ret
    exact ⟨rfl, (R _).out, Only.drewN b w _⟩

end Go.Proofs.Ytdndfbgjaadbmaa
