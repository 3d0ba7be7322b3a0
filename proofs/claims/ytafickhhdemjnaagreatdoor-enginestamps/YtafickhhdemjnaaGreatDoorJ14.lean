import Derived.Test.YtafickhhdemjnaaGreatDoorJ1
import Derived.Defers
import Derived.Test.YtafickhhdemjnaaGreatDoorJ2
import Derived.Laws.BytesString
namespace Go.Proofs.YtafickhhdemjnaaGreatDoor
open Go.RowKit
set_option linter.unusedVariables false

/-- A reader: what is left, the place, the error; D: where its bytes lie. -/
structure Rd (w : World) (b : Nat) (D : Option Nat) (rv : Value) (rs : List UInt8) (place : Nat) (err : Int) : Prop where
  box : w.heap[b]? = some (.cells #[rv, .int .i64 (place : Int), .int .i64 err] 274 (0, 0))
  reads : Reads w rv rs
  own : ∀ k, rv.ownBlock = some k → D = some k
  apart : D ≠ some b
  broken : err ≠ 0 → rs = []
  old : ∀ k, D = some k → k < w.heap.size

theorem Rd.lt {w : World} {b : Nat} {D : Option Nat} {rv : Value} {rs : List UInt8} {place : Nat} {err : Int} (h : Rd w b D rv rs place err) : b < w.heap.size := (Array.getElem?_eq_some_iff.1 h.box).1

theorem Rd.kept {w w' : World} {b : Nat} {D : Option Nat} {rv : Value} {rs : List UInt8} {place : Nat} {err : Int} (h : Rd w b D rv rs place err) (hs : w.heap.size ≤ w'.heap.size) (hb : w'.heap[b]? = w.heap[b]?) (hD : ∀ k, rv.ownBlock = some k → w'.heap[k]? = w.heap[k]?) : Rd w' b D rv rs place err :=
  ⟨by rw [hb]; exact h.box, h.reads.kept hs hD, h.own, h.apart, h.broken, fun k hk => Nat.lt_of_lt_of_le (h.old k hk) hs⟩

/-- An item that is read. -/
def Item (w : World) (t : Nat) (rv : Value) (size : Int) (err : Int) : Prop := w.heap[t]? = some (.cells #[rv, .int .i64 size, .int .i64 err] 285 (0, 0))

set_option maxHeartbeats 800000 in
set_option maxRecDepth 1000000 in
theorem begin_any {w : World} {b : Nat} {D : Option Nat} {rv : Value} {rs : List UInt8} {place : Nat} {err : Int} (h : Rd w b D rv rs place err) :
    Calls Tryz.prog 215 #[.pointer (some ⟨b, 0, none⟩)] w fun e w' => e = .returned (.pointer (some ⟨w.heap.size, 0, none⟩)) ∧ Item w' w.heap.size rv 0 0 ∧ Below w.heap.size w w' ∧ w.heap.size < w'.heap.size := by
  obtain ⟨ao, c, hf⟩ := h.reads.form
  have c0 : w.cell? ⟨b, 0, none⟩ = some (.slice ao rs.length c) := by rw [cell_at h.box, ← hf]; rfl
  clear h
  subst hf
  go_enter Tryz.func215, Tryz.ntmps215
  go_wp2
  go_ret
  exact ⟨rfl, alloc_new_at _ _, (Below.refl _ _).alloc (Nat.le_refl _) _, by simp⟩

set_option maxHeartbeats 800000 in
set_option maxRecDepth 1000000 in
theorem rfail_any {w : World} {b : Nat} {D : Option Nat} {rv : Value} {rs : List UInt8} {place : Nat} {err : Int} (h : Rd w b D rv rs place err) (e0 : Int) (he : e0 ≠ 0) :
    Calls Tryz.prog 200 #[.pointer (some ⟨b, 0, none⟩), .int .i64 e0] w fun e w' => e = .returned (.tuple #[]) ∧ (∃ rv', Rd w' b D rv' [] place (keepE err e0)) ∧ Only b w w' := by
  have c0 : w.cell? ⟨b, 0, none⟩ = some rv := by rw [cell_at h.box]; rfl
  have c1 : w.cell? ⟨b, 1, none⟩ = some (.int .i64 (place : Int)) := by rw [cell_at h.box]; rfl
  have c2 : w.cell? ⟨b, 2, none⟩ = some (.int .i64 err) := by rw [cell_at h.box]; rfl
  have f0 := free_at h.box 0
  have f2 := free_at h.box 2
  have HH : Hid _ := h
  clear h
  by_cases hz : err = 0
  · subst hz
    have hb1 : (e0 != 0) = true := by simpa using he
    have R : Hid (Rd ((w.setCell ⟨b, 0, none⟩ (.slice none 0 0)).setCell ⟨b, 2, none⟩ (.int .i64 e0)) b D (.slice none 0 0) [] place e0 ∧ Only b w ((w.setCell ⟨b, 0, none⟩ (.slice none 0 0)).setCell ⟨b, 2, none⟩ (.int .i64 e0))) := by
      refine ⟨⟨?_, ⟨none, 0, rfl, by simp, Or.inl ⟨rfl, rfl, rfl⟩⟩, fun k hk => by simp [Value.ownBlock] at hk, HH.out.apart, fun _ => rfl, fun k hk => by have := HH.out.old k hk; simpa [World.setCell] using this⟩, (Only.setCell w 0 _).trans (Only.setCell _ 2 _)⟩
      rw [heap_setCell_same (heap_setCell_same HH.out.box _)]; rfl
    go_enter Tryz.func200, Tryz.ntmps200
    go_wp2
    go_end0
    exact ⟨rfl, ⟨_, by simpa [keepE] using R.out.1⟩, R.out.2⟩
  · have hb1 : (err == 0) = false := by simpa using hz
    go_enter Tryz.func200, Tryz.ntmps200
    go_wp2
    go_end0
    refine ⟨rfl, ⟨rv, ?_⟩, Only.refl _ _⟩
    have hrs := HH.out.broken hz
    subst hrs
    unfold keepE
    rw [if_neg hz]
    exact HH.out

theorem item_err {w : World} {t : Nat} {rv : Value} {a b : Int} (h : Item w t rv a b) (e : Int) : Item (w.setCell ⟨t, 2, none⟩ (.int .i64 e)) t rv a e ∧ Only t w (w.setCell ⟨t, 2, none⟩ (.int .i64 e)) := by
  refine ⟨?_, Only.setCell _ _ _⟩
  unfold Item
  rw [heap_setCell_same h]; rfl

theorem item_size {w : World} {t : Nat} {rv : Value} {a b : Int} (h : Item w t rv a b) (n : Int) : Item (w.setCell ⟨t, 1, none⟩ (.int .i64 n)) t rv n b ∧ Only t w (w.setCell ⟨t, 1, none⟩ (.int .i64 n)) := by
  refine ⟨?_, Only.setCell _ _ _⟩
  unfold Item
  rw [heap_setCell_same h]; rfl

set_option maxHeartbeats 3200000 in
set_option maxRecDepth 1000000 in
theorem groups_item {w : World} {t : Nat} {rv : Value} {rs : List UInt8} (hI : Item w t rv 0 0) (hr : Reads w rv rs) (most top : Nat) (mI tI : Int) (hmI : mI = (most : Int)) (htI : tI = (top : Int)) (hm0 : 2 ≤ most) (hm1 : most ≤ 10) (ht1 : top < 128) (ht2 : most = 10 → top ≤ 1) (hlen : rs.length ≤ 140737488355328) :
    Calls Tryz.prog 224 #[.pointer (some ⟨t, 0, none⟩), .int .i64 mI, .int .u8 tI] w fun e w' => e = .returned (.int .u64 ((look most top 0 rs 0).1 : Int)) ∧ Item w' t rv ((look most top 0 rs 0).2.1 : Int) ((look most top 0 rs 0).2.2 : Int) ∧ Only t w w' := by
  subst hmI
  subst htI
  obtain ⟨ao, c, hf⟩ := hr.form
  subst hf
  have HR : Hid (Reads w (.slice ao rs.length c) rs) := hr
  have HI : Hid (Item w t (.slice ao rs.length c) 0 0) := hI
  have c0 : w.cell? ⟨t, 0, none⟩ = some (.slice ao rs.length c) := by rw [cell_at hI]; rfl
  have c1 : w.cell? ⟨t, 1, none⟩ = some (.int .i64 0) := by rw [cell_at hI]; rfl
  have c2 : w.cell? ⟨t, 2, none⟩ = some (.int .i64 0) := by rw [cell_at hI]; rfl
  have f1 := free_at hI 1
  have f2 := free_at hI 2
  have HT2 : Hid _ := ht2
  clear hr hI ht2
  go_enter Tryz.func224, Tryz.ntmps224
  go_wp2
  go_loop [7, 15] (fun nv iv => ∃ (k acc : Nat), k ≤ rs.length ∧ k < most ∧ iv = .int .i64 (k : Int) ∧ nv = .int .u64 (acc : Int) ∧ acc < 128 ^ k ∧ Hid (look most top k (rs.drop k) acc = look most top 0 rs 0)) (fun _ iv => rs.length - (intOf iv).toNat)
  case atStart => exact ⟨0, 0, by omega, by omega, rfl, rfl, by simp, rfl⟩
  case round =>
    obtain ⟨k, acc, hk, hkm, rfl, rfl, hacc, hlook⟩ := hrel
    by_cases hlt : k < rs.length
    · obtain ⟨g, o, hao, hcell⟩ := HR.out.at k hlt
      have HL := look_at most top k acc rs hlt
      rw [hlook.out] at HL
      have hx : (rs.getD k 0).toNat < 256 := (rs.getD k 0).toNat_lt
      generalize (rs.getD k 0).toNat = x at HL hcell hx
      have HA : Hid (acc < 128 ^ k) := hacc
      have HLL : Hid _ := HL
      clear hlook HL hacc
      subst hao
      by_cases hA : k + 1 = most ∧ top < x
      · have hb : ((k : Int) == (most : Int) - 1) = true := by simp; omega
        have hgt : (top : Int) < (x : Int) := by omega
        have F := HLL.out
        rw [if_pos hA] at F
        have FF : Hid _ := F
        clear F hA HLL
        go_wp2
        go_ret
        exact ⟨ret_int (by rw [FF.out]; rfl), by rw [FF.out]; exact item_err HI.out 11⟩
      · have F := HLL.out
        rw [if_neg hA] at F
        have OF : Hid _ := or_form acc x k most top hx HA.out hkm hm1 HT2.out hA
        have AL : Hid _ := acc_lt acc x k most top HA.out hkm hm1 HT2.out hA
        by_cases hB : 128 ≤ x
        · have hne : k + 1 ≠ most := fun e => hA ⟨e, by omega⟩
          have hb : ((k : Int) == (most : Int) - 1) = false := by simp; omega
          have hh := and_yes x hx hB
          rw [if_pos hB] at F
          have FF : Hid _ := F
          clear F hA HLL
          go_wp2
          go_round
          case rel => exact ⟨k + 1, _, by omega, by omega, by go_num, congrArg (Value.int .u64) OF.out, AL.out.2.1 (by omega), FF.out.symm⟩
          case measure => simp [intOf]; omega
        · have hh := and_no x hx (by omega)
          rw [if_neg hB] at F
          by_cases hC : x = 0 ∧ 0 < k
          · rw [if_pos hC] at F
            have FF : Hid _ := F
            clear F hA HLL OF AL
            obtain ⟨rfl, hk0⟩ := hC
            by_cases hne : k + 1 = most
            · have hb : ((k : Int) == (most : Int) - 1) = true := by simp; omega
              clear hne
              go_wp2
              go_ret
              exact ⟨ret_int (by rw [FF.out]; rfl), by rw [FF.out]; exact item_err HI.out 12⟩
            · have hb : ((k : Int) == (most : Int) - 1) = false := by simp; omega
              clear hne
              go_wp2
              go_ret
              exact ⟨ret_int (by rw [FF.out]; rfl), by rw [FF.out]; exact item_err HI.out 12⟩
          · rw [if_neg hC] at F
            have FF : Hid _ := F
            have HC : Hid _ := hC
            have HAA : Hid _ := hA
            clear F hA HLL hC
            by_cases hne : k + 1 = most
            · have hb : ((k : Int) == (most : Int) - 1) = true := by simp; omega
              have hle : x ≤ top := by
                by_cases h : x ≤ top
                · exact h
                · exact absurd ⟨hne, by omega⟩ HAA.out
              have hx0 : x ≠ 0 := fun e => HC.out ⟨e, by omega⟩
              have hb2 : ((x : Int) == 0) = false := by simp; omega
              clear hne hx0
              go_wp2
              go_ret
              exact ⟨ret_int (by rw [FF.out]; exact OF.out), by rw [FF.out]; exact item_size HI.out _⟩
            · have hb : ((k : Int) == (most : Int) - 1) = false := by simp; omega
              clear hne
              by_cases hx0 : x = 0
              · have hk0 : k = 0 := by
                  by_cases h : k = 0
                  · exact h
                  · exact absurd ⟨hx0, by omega⟩ HC.out
                have hb2 : ((x : Int) == 0) = true := by simp; omega
                have hk1 : (k : Int) ≤ 0 := by omega
                clear hx0 hk0
                go_wp2
                go_ret
                exact ⟨ret_int (by rw [FF.out]; exact OF.out), by rw [FF.out]; exact item_size HI.out _⟩
              · have hb2 : ((x : Int) == 0) = false := by simp; omega
                clear hx0
                go_wp2
                go_ret
                exact ⟨ret_int (by rw [FF.out]; exact OF.out), by rw [FF.out]; exact item_size HI.out _⟩
    · have hkl : k = rs.length := by omega
      have F := hlook.out
      rw [hkl, List.drop_length, look] at F
      have FF : Hid _ := F.symm
      clear F hkl
      go_wp2
      go_ret
      exact ⟨ret_int (by rw [FF.out]; rfl), by rw [FF.out]; exact item_err HI.out 10⟩

end Go.Proofs.YtafickhhdemjnaaGreatDoor

namespace Go.Proofs.YtafickhhdemjnaaGreatDoor
open Go.RowKit
set_option linter.unusedVariables false

set_option maxHeartbeats 1600000 in
set_option maxRecDepth 1000000 in
theorem end_bad {w : World} {b t : Nat} {D : Option Nat} {rv rvt : Value} {rs : List UInt8} {place : Nat} {err size e0 : Int} (u : FrameMode) (h : Rd w b D rv rs place err) (hI : Item w t rvt size e0) (he : e0 ≠ 0) :
    CallsD Tryz.prog 216 #[.pointer (some ⟨b, 0, none⟩), .pointer (some ⟨t, 0, none⟩)] u w fun e u' w' => u' = u ∧ (e = .returned (.tuple #[]) ∧ (∃ rv', Rd w' b D rv' [] place (keepE err e0)) ∧ Only b w w') := by
  have c2 : w.cell? ⟨t, 2, none⟩ = some (.int .i64 e0) := by rw [cell_at hI]; rfl
  have hb : (e0 != 0) = true := by simpa using he
  have HH : Hid _ := h
  clear h hI
  go_enter_d Tryz.func216, Tryz.ntmps216
  go_wp2_with fail
  refine (rfail_any HH.out e0 he).mono ?_
  rintro e w1 ⟨rfl, h1, h2⟩
  have H1 : Hid _ := h1
  have H2 : Hid _ := h2
  clear h1 h2
  go_wp2
  refine bodyPost_ret (results_none rfl _ _ _) rfl ?_
  exact ⟨rfl, H1.out, H2.out⟩

theorem Rd.drew {w : World} {b : Nat} {D : Option Nat} {rv : Value} {rs : List UInt8} {place : Nat} {err : Int} (h : Rd w b D rv rs place err) : Rd w.drew b D rv rs place err := h.kept (Nat.le_refl _) rfl (fun _ _ => rfl)

theorem end_after {w : World} {b : Nat} {D : Option Nat} {rv rv' : Value} {rs rs' : List UInt8} {place : Nat} {err : Int} (h : Rd w b D rv rs place err) (hr : Reads w rv' rs') (ho : ∀ k, rv'.ownBlock = some k → rv.ownBlock = some k) (he : err ≠ 0 → rs' = []) (size : Nat) :
    Rd ((w.setCell ⟨b, 0, none⟩ rv').setCell ⟨b, 1, none⟩ (.int .i64 ((place : Int) + (size : Int)))) b D rv' rs' (place + size) err ∧ Only b w ((w.setCell ⟨b, 0, none⟩ rv').setCell ⟨b, 1, none⟩ (.int .i64 ((place : Int) + (size : Int)))) := by
  have O : Only b w ((w.setCell ⟨b, 0, none⟩ rv').setCell ⟨b, 1, none⟩ (.int .i64 ((place : Int) + (size : Int)))) := (Only.setCell w 0 _).trans (Only.setCell _ 1 _)
  refine ⟨⟨?_, ?_, fun k hk => h.own k (ho k hk), h.apart, he, fun k hk => Nat.lt_of_lt_of_le (h.old k hk) O.size⟩, O⟩
  · rw [heap_setCell_same (heap_setCell_same h.box _)]; rfl
  · exact hr.only O (fun e => h.apart (h.own b (ho b e)))

set_option maxHeartbeats 1600000 in
set_option maxRecDepth 1000000 in
theorem end_good {w : World} {b t : Nat} {D : Option Nat} {rv rvt : Value} {rs : List UInt8} {place : Nat} {err : Int} {size : Nat} (u : FrameMode) (h : Rd w b D rv rs place err) (hI : Item w t rvt (size : Int) 0) (htb : t ≠ b) (hs : size ≤ rs.length) (hp : place + rs.length ≤ 140737488355328) :
    CallsD Tryz.prog 216 #[.pointer (some ⟨b, 0, none⟩), .pointer (some ⟨t, 0, none⟩)] u w fun e u' w' => u' = u ∧ (e = .returned (.tuple #[]) ∧ (∃ rv', Rd w' b D rv' (rs.drop size) (place + size) err) ∧ Only b w w') := by
  obtain ⟨ao, c, hf⟩ := h.reads.form
  subst hf
  have hlc : rs.length ≤ c := by
    obtain ⟨_, _, e, hc, _⟩ := h.reads
    simp only [Value.slice.injEq] at e
    omega
  have c2 : w.cell? ⟨t, 2, none⟩ = some (.int .i64 0) := by rw [cell_at hI]; rfl
  have c1 : w.cell? ⟨t, 1, none⟩ = some (.int .i64 (size : Int)) := by rw [cell_at hI]; rfl
  have d0 : w.cell? ⟨b, 0, none⟩ = some (.slice ao rs.length c) := by rw [cell_at h.box]; rfl
  have d1 : w.cell? ⟨b, 1, none⟩ = some (.int .i64 (place : Int)) := by rw [cell_at h.box]; rfl
  have f0 := free_at h.box 0
  have f1 := free_at h.box 1
  have HH : Hid _ := h
  have RC : Hid _ := h.reads.cut hs
  have hbr : err ≠ 0 → rs.drop size = [] := fun e => by rw [h.broken e]; simp
  clear h hI
  by_cases hcs : c = size
  · subst hcs
    have e0 : rs.length - c = 0 := by omega
    have R : Hid _ := end_after (rv' := .slice ao 0 0) HH.out (by simpa [e0] using RC.out.1) (by simpa [e0] using RC.out.2) hbr c
    clear e0
    clear hbr
    go_enter_d Tryz.func216, Tryz.ntmps216
    go_wp2
    go_region
    go_wp2
    go_region
    go_wp2
    go_end0
    exact ⟨rfl, ⟨_, R.out.1.drew.drew⟩, (R.out.2.trans (Only.drew _ _)).trans (Only.drew _ _)⟩
  · have R : Hid _ := end_after HH.out (by simpa [hcs] using RC.out.1) (by simpa [hcs] using RC.out.2) hbr size
    clear hbr
    go_enter_d Tryz.func216, Tryz.ntmps216
    go_wp2
    go_region
    go_wp2
    go_region
    go_wp2
    go_end0
    exact ⟨rfl, ⟨_, R.out.1.drew.drew⟩, (R.out.2.trans (Only.drew _ _)).trans (Only.drew _ _)⟩
end Go.Proofs.YtafickhhdemjnaaGreatDoor

namespace Go.Proofs.YtafickhhdemjnaaGreatDoor
open Go.RowKit
set_option linter.unusedVariables false

/-- The call that is deferred, whatever came of the item. -/
theorem end_any {w : World} {b t : Nat} {D : Option Nat} {rv rvt : Value} {rs : List UInt8} {place : Nat} {err e0 : Int} {size : Nat} (u : FrameMode) (h : Rd w b D rv rs place err) (hI : Item w t rvt (size : Int) e0) (htb : t ≠ b) (hs : e0 = 0 → size ≤ rs.length) (hp : place + rs.length ≤ 140737488355328) :
    CallsD Tryz.prog 216 #[.pointer (some ⟨b, 0, none⟩), .pointer (some ⟨t, 0, none⟩)] u w fun e u' w' => u' = u ∧ (e = .returned (.tuple #[]) ∧ (∃ rv', Rd w' b D rv' (aft rs place err size e0).1 (aft rs place err size e0).2.1 (aft rs place err size e0).2.2) ∧ Only b w w') := by
  by_cases he : e0 = 0
  · subst he
    have : aft rs place err size 0 = (rs.drop size, place + size, err) := by simp [aft]
    rw [this]
    exact end_good u h hI htb (hs rfl) hp
  · have : aft rs place err size e0 = ([], place, keepE err e0) := by simp [aft, he]
    rw [this]
    exact end_bad u h hI he

theorem Rd.only {w w' : World} {b t : Nat} {D : Option Nat} {rv : Value} {rs : List UInt8} {place : Nat} {err : Int} (h : Rd w b D rv rs place err) (hw : Only t w w') (htb : t ≠ b) (ht : rv.ownBlock ≠ some t) : Rd w' b D rv rs place err :=
  h.kept hw.size (hw.block b h.lt (fun e => htb e.symm)) (fun k hk => hw.block k (h.reads.block k hk) (fun e => ht (by rw [hk, e])))

theorem Rd.below {w w' : World} {b : Nat} {D : Option Nat} {rv : Value} {rs : List UInt8} {place : Nat} {err : Int} (h : Rd w b D rv rs place err) (hw : Below w.heap.size w w') : Rd w' b D rv rs place err :=
  h.kept hw.size (hw.block b h.lt) (fun k hk => hw.block k (h.reads.block k hk))

set_option maxHeartbeats 1600000 in
set_option maxRecDepth 1000000 in
theorem num_item {w : World} {t : Nat} {rv : Value} {rs : List UInt8} (hI : Item w t rv 0 0) (hr : Reads w rv rs) (most above : Int) (hab : above ≠ 0) (hlen : rs.length ≤ 140737488355328) :
    Calls Tryz.prog 218 #[.pointer (some ⟨t, 0, none⟩), .int .i64 most, .int .i64 above] w fun e w' => e = .returned (.int .i64 (numR rs most above).1) ∧ Item w' t rv ((numR rs most above).2.1 : Int) (numR rs most above).2.2 ∧ Only t w w' := by
  have HI : Hid _ := hI
  have HR : Hid _ := hr
  have LB := look_bound 9 127 (by omega) (by omega) (by omega) rs 0 0 (by omega) (by simp)
  have e0 := numR_eq rs most above
  have HG : Hid _ := groups_item hI hr 9 127 9 127 rfl rfl (by omega) (by omega) (by omega) (by omega) hlen
  clear hI hr
  generalize look 9 127 0 rs 0 = lk at LB e0 HG
  obtain ⟨n, sz, er⟩ := lk
  simp only at LB e0 HG
  obtain ⟨_, hn, _, hz, her, _⟩ := LB
  have hn' := hn (by omega)
  clear hn
  have HE : Hid _ := e0
  have HZ : Hid _ := hz
  clear e0 hz
  go_enter Tryz.func218, Tryz.ntmps218
  go_wp2_with fail
  refine Calls.mono HG.out ?_
  rintro e w1 ⟨rfl, h1, h2⟩
  have H1 : Hid _ := h1
  have H2 : Hid _ := h2
  have c1 : w1.cell? ⟨t, 1, none⟩ = some (.int .i64 (sz : Int)) := by rw [cell_at h1]; rfl
  have c2 : w1.cell? ⟨t, 2, none⟩ = some (.int .i64 (er : Int)) := by rw [cell_at h1]; rfl
  have f2 := free_at h1 2
  clear h1 h2
  by_cases hz : er = 0
  · subst hz
    by_cases hm : most < (n : Int)
    · have F : Hid (numR rs most above = (0, sz, above)) := by rw [HE.out]; simp [hm, Hid]
      have hb : (above != 0) = true := by simpa using hab
      go_wp2
      go_ret
      rw [F.out]
      exact ⟨rfl, (item_err H1.out above).1, H2.out.trans (item_err H1.out above).2⟩
    · have F : Hid (numR rs most above = ((n : Int), sz, 0)) := by rw [HE.out]; simp [hm, Hid]
      go_wp2
      go_ret
      rw [F.out]
      exact ⟨rfl, H1.out, H2.out⟩
  · have F : Hid (numR rs most above = (0, sz, (er : Int))) := by rw [HE.out]; simp [hz, Hid]
    have hb : ((er : Int) == 0) = false := by simp; omega
    have hb' : ((er : Int) != 0) = true := by simp; omega
    clear hz
    go_wp2
    go_ret
    rw [F.out]
    exact ⟨rfl, H1.out, H2.out⟩

set_option maxHeartbeats 1600000 in
set_option maxRecDepth 1000000 in
theorem Num_any {w : World} {b : Nat} {D : Option Nat} {rv : Value} {rs : List UInt8} {place : Nat} {err : Int} (h : Rd w b D rv rs place err) (hp : place + rs.length ≤ 140737488355328) (most : Int) :
    Calls Tryz.prog 198 #[.pointer (some ⟨b, 0, none⟩), .int .i64 most] w fun e w' => e = .returned (.int .i64 (numR rs most 13).1) ∧ (∃ rv', Rd w' b D rv' (aft rs place err (numR rs most 13).2.1 (numR rs most 13).2.2).1 (aft rs place err (numR rs most 13).2.1 (numR rs most 13).2.2).2.1 (aft rs place err (numR rs most 13).2.1 (numR rs most 13).2.2).2.2) ∧ Only b w w' := by
  have HH : Hid _ := h
  have hlt := h.lt
  clear h
  go_enter_defers Tryz.func198, Tryz.ntmps198
  go_wp2_with fail
  refine (begin_any HH.out).mono ?_
  rintro e w1 ⟨rfl, h1, h2, h3⟩
  have H1 : Hid _ := h1
  have H2 : Hid _ := h2
  clear h1 h2
  go_wp2_with fail
  refine (num_item H1.out (HH.out.below H2.out).reads most 13 (by omega) (by omega)).mono ?_
  rintro e w2 ⟨rfl, h1, h4⟩
  have H3 : Hid _ := h1
  have H4 : Hid _ := h4
  clear h1 h4
  go_wp2
  refine leaves_cons (f := 216) (args := #[.pointer (some ⟨b, 0, none⟩), .pointer (some ⟨w.heap.size, 0, none⟩)]) (by simp) (by simp [go_sem]) ?_
  have hne : rv.ownBlock ≠ some w.heap.size := fun e => by have := HH.out.reads.block _ e; omega
  refine (end_any .returning ((HH.out.below H2.out).only H4.out (by omega) hne) H3.out (by omega) (fun _ => numR_size _ _ _) hp).mono ?_
  rintro e u' w3 ⟨rfl, rfl, h5, h6⟩
  refine ⟨_, results_tmp rfl _ _ _, rfl, h5, ?_⟩
  exact (Only.below (Only.after H2.out H4.out (Nat.le_refl _))).trans h6
end Go.Proofs.YtafickhhdemjnaaGreatDoor

namespace Go.Proofs.YtafickhhdemjnaaGreatDoor
open Go.RowKit
set_option linter.unusedVariables false

set_option maxHeartbeats 800000 in
set_option maxRecDepth 1000000 in
theorem Err_any {w : World} {b : Nat} {D : Option Nat} {rv : Value} {rs : List UInt8} {place : Nat} {err : Int} (h : Rd w b D rv rs place err) :
    Calls Tryz.prog 225 #[.pointer (some ⟨b, 0, none⟩)] w fun e w' => e = .returned (.tuple #[.int .i64 err, .int .i64 (place : Int)]) ∧ Below w.heap.size w w' := by
  have c1 : w.cell? ⟨b, 1, none⟩ = some (.int .i64 (place : Int)) := by rw [cell_at h.box]; rfl
  have c2 : w.cell? ⟨b, 2, none⟩ = some (.int .i64 err) := by rw [cell_at h.box]; rfl
  clear h
  go_enter Tryz.func225, Tryz.ntmps225
  go_wp2
  go_region
  go_wp2
  go_ret2
  exact ⟨rfl, (Below.refl _ _).drew⟩

set_option maxHeartbeats 800000 in
set_option maxRecDepth 1000000 in
theorem NewReader_any {w : World} {s : Value} {l : List UInt8} (h : Reads w s l) (hlen : l.length ≤ 140737488355328) :
    Calls Tryz.prog 196 #[s] w fun e w' => ∃ b D rv, e = .returned (.pointer (some ⟨b, 0, none⟩)) ∧ Rd w' b D rv l 0 0 ∧ Below w.heap.size w w' ∧ w.heap.size ≤ b ∧ ∀ k, D = some k → w.heap.size ≤ k ∧ k < w'.heap.size := by
  have HH : Hid _ := h
  obtain ⟨ao, c, hf⟩ := h.form
  subst hf
  clear h
  go_enter Tryz.func196, Tryz.ntmps196
  go_wp2_with fail
  refine (clone_any HH.out hlen).mono ?_
  rintro e w1 ⟨s', rfl, h1, h2⟩
  obtain ⟨ao', c', hf⟩ := owns_form h1
  subst hf
  have H1 : Hid _ := h1
  have H2 : Hid _ := h2
  clear h1 h2
  go_wp2
  go_ret
  refine ⟨w1.heap.size, (Value.slice ao' l.length c').ownBlock, _, rfl, ⟨alloc_new_at _ _, (Reads.of_owns H1.out).below ((Below.refl _ _).alloc (Nat.le_refl _) _), fun k hk => hk, ?_, fun e => absurd rfl e, fun k hk => by have := (World.ownsRow.lt H1.out k hk).2; simp; omega⟩, H2.out.alloc H2.out.size _, H2.out.size, ?_⟩
  · intro e
    have := (World.ownsRow.lt H1.out _ e).2
    omega
  · intro k hk
    have := World.ownsRow.lt H1.out k hk
    simp
    omega

end Go.Proofs.YtafickhhdemjnaaGreatDoor

namespace Go.Proofs.YtafickhhdemjnaaGreatDoor
open Go.RowKit
set_option linter.unusedVariables false

set_option maxHeartbeats 3200000 in
set_option maxRecDepth 1000000 in
theorem run_item {w : World} {t : Nat} {rv : Value} {rs : List UInt8} (hI : Item w t rv 0 0) (hr : Reads w rv rs) (hne : rv.ownBlock ≠ some t) (most : Int) (hlen : rs.length ≤ 140737488355328) :
    Calls Tryz.prog 217 #[.pointer (some ⟨t, 0, none⟩), .int .i64 most] w fun e w' => ∃ s, e = .returned s ∧ Reads w' s (runR rs most).1 ∧ (∀ k, s.ownBlock = some k → rv.ownBlock = some k) ∧ Item w' t rv ((runR rs most).2.1 : Int) (runR rs most).2.2 ∧ Only t w w' := by
  have HI := hid (hI)
  have HR := hid (hr)
  have HN := hid (hne)
  have e0 := runR_eq rs most
  have hs := numR_size rs most 14
  have hv := numR_val rs most 14
  have HG := hid (num_item hI hr most 14 (by omega) hlen)
  have hnil := numR_nil rs most
  obtain ⟨ao, c, hf, hc, hcase⟩ := hr
  subst hf
  clear hI hne
  generalize numR rs most 14 = r at e0 hs hv HG hnil
  obtain ⟨n, sz, er⟩ := r
  simp only at e0 hs hv HG hnil
  have HNil := hid hnil
  clear hnil
  obtain ⟨hn0, hn1, hnz⟩ := hv
  obtain ⟨m, rfl⟩ := Int.eq_ofNat_of_zero_le hn0
  have HE := hid (e0)
  have HZ := hid (hnz)
  have HC := hid (hcase)
  clear e0 hnz hcase
  go_enter Tryz.func217, Tryz.ntmps217
  go_wp2_with fail
  refine Calls.mono HG.out ?_
  rintro e w1 ⟨rfl, h1, h2⟩
  have H1 := hid (h1)
  have H2 := hid (h2)
  have HR1 := hid (HR.out.only h2 HN.out)
  have c0 : w1.cell? ⟨t, 0, none⟩ = some (.slice ao rs.length c) := by rw [cell_at h1]; rfl
  have c1 : w1.cell? ⟨t, 1, none⟩ = some (.int .i64 (sz : Int)) := by rw [cell_at h1]; rfl
  have c2 : w1.cell? ⟨t, 2, none⟩ = some (.int .i64 er) := by rw [cell_at h1]; rfl
  have f1 := free_at h1 1
  have f2 := free_at h1 2
  clear h1 h2
  clear hn0 hn1
  by_cases hz : er = 0
  · subst hz
    rcases HC.out with ⟨rfl, rfl, rfl⟩ | ⟨g, o, rfl, -, -⟩
    · exact absurd rfl (HNil.out rfl)
    · by_cases hgt : rs.length - sz < m
      · have F : Hid (runR rs most = ([], sz, 10)) := by rw [HE.out]; simp [hgt, Hid]
        have R := hid (item_err H1.out 10)
        by_cases hcs : c = sz
        · subst hcs
          have hl0 : rs.length - c = 0 := by omega
          have hm0 : 0 < m := by omega
          clear hgt hl0
          go_wp2
          go_region
          go_wp2
          go_ret
          rw [F.out]
          exact ⟨_, rfl, Reads.nil _, fun k hk => by simp [Value.ownBlock] at hk, R.out.1, (H2.out.trans R.out.2).trans (Only.drew _ _)⟩
        · go_wp2
          go_region
          have q1 : rs.length - sz < m := hgt
          have q3 : rs.length - sz ≤ 140737488355328 := by omega
          generalize hq : rs.length - sz = q at *
          generalize hcq : c - sz = cq at *
          clear hq hcq hc hs hcs hgt
          go_wp2
          go_ret
          rw [F.out]
          exact ⟨_, rfl, Reads.nil _, fun k hk => by simp [Value.ownBlock] at hk, R.out.1, (H2.out.trans R.out.2).trans (Only.drew _ _)⟩
      · have F : Hid (runR rs most = ((rs.drop sz).take m, sz + m, 0)) := by rw [HE.out]; simp [hgt, Hid]
        by_cases hcs : c = sz
        · subst hcs
          have hl0 : rs.length - c = 0 := by omega
          have hm0 : m = 0 := by omega
          subst hm0
          have R := hid (item_size H1.out (c : Int))
          have hg := hid HR1.out.lt
          go_wp2
          go_region
          go_wp2
          go_ret
          rw [F.out]
          exact ⟨_, rfl, (Reads.empty g o 0 (Nat.lt_of_lt_of_le hg.out R.out.2.size)), fun k hk => hk, R.out.1, (H2.out.trans R.out.2).trans (Only.drew _ _)⟩
        · have R := hid (item_size H1.out ((sz : Int) + (m : Int)))
          have RP := hid (HR1.out.part sz m (c - sz) (by omega) (by omega))
          have hm1 : (m : Int) ≤ (rs.length : Int) - (sz : Int) := by omega
          clear hgt
          go_wp2
          go_region
          have q1 : m ≤ rs.length - sz := by omega
          have q2 : rs.length - sz ≤ c - sz := by omega
          have q3 : rs.length - sz ≤ 140737488355328 := by omega
          have q4 : 0 < c - sz := by omega
          have q5 : sz ≤ 140737488355328 := by omega
          generalize hq : rs.length - sz = q at *
          generalize hcq : c - sz = cq at *
          clear hq hcq hm1 hc hs hcs
          have hcut := cut_run g (o + sz) m q cq (by omega) q4
          go_wp2
          go_ret
          rw [F.out]
          exact ⟨_, rfl, (RP.out.only (R.out.2.trans (Only.drew _ _)) HN.out), fun k hk => hk, R.out.1, (H2.out.trans R.out.2).trans (Only.drew _ _)⟩
  · have F : Hid (runR rs most = ([], sz, er)) := by rw [HE.out]; simp [hz, Hid]
    have hb : (er == 0) = false := by simpa using hz
    have hb' : (er != 0) = true := by simpa using hz
    have hm0 : m = 0 := by have := HZ.out hz; omega
    subst hm0
    clear hz
    rcases HC.out with ⟨rfl, rfl, rfl⟩ | ⟨g, o, rfl, -, -⟩
    · have hs0 : sz = 0 := by simpa using hs
      subst hs0
      go_wp2
      go_region
      go_wp2
      go_ret
      rw [F.out]
      exact ⟨_, rfl, Reads.nil _, fun k hk => by simp [Value.ownBlock] at hk, H1.out, H2.out.trans (Only.drew _ _)⟩
    · by_cases hcs : c = sz
      · subst hcs
        go_wp2
        go_region
        go_wp2
        go_ret
        rw [F.out]
        exact ⟨_, rfl, Reads.nil _, fun k hk => by simp [Value.ownBlock] at hk, H1.out, H2.out.trans (Only.drew _ _)⟩
      · go_wp2
        go_region
        generalize hq : rs.length - sz = q at *
        generalize hcq : c - sz = cq at *
        clear hq hcq hc hs hcs
        go_wp2
        go_ret
        rw [F.out]
        exact ⟨_, rfl, Reads.nil _, fun k hk => by simp [Value.ownBlock] at hk, H1.out, H2.out.trans (Only.drew _ _)⟩

end Go.Proofs.YtafickhhdemjnaaGreatDoor

namespace Go.Proofs.YtafickhhdemjnaaGreatDoor
open Go.RowKit
set_option linter.unusedVariables false

set_option maxHeartbeats 1600000 in
set_option maxRecDepth 1000000 in
theorem Text_any {w : World} {b : Nat} {D : Option Nat} {rv : Value} {rs : List UInt8} {place : Nat} {err : Int} (h : Rd w b D rv rs place err) (hp : place + rs.length ≤ 140737488355328) (most : Int) :
    Calls Tryz.prog 197 #[.pointer (some ⟨b, 0, none⟩), .int .i64 most] w fun e w' => e = .returned (.string (strB (runR rs most).1)) ∧ (∃ rv', Rd w' b D rv' (aft rs place err (runR rs most).2.1 (runR rs most).2.2).1 (aft rs place err (runR rs most).2.1 (runR rs most).2.2).2.1 (aft rs place err (runR rs most).2.1 (runR rs most).2.2).2.2) ∧ Only b w w' := by
  have HH := hid h
  have hlt := h.lt
  have hrl := (runR_size rs most).2
  clear h
  go_enter_defers Tryz.func197, Tryz.ntmps197
  go_wp2_with fail
  refine (begin_any HH.out).mono ?_
  rintro e w1 ⟨rfl, h1, h2, h3⟩
  have H1 := hid h1
  have H2 := hid h2
  have HN : Hid (rv.ownBlock ≠ some w.heap.size) := fun e => by have := HH.out.reads.block _ e; omega
  clear h1 h2
  go_wp2_with fail
  refine (run_item H1.out (HH.out.below H2.out).reads HN.out most (by omega)).mono ?_
  rintro e w2 ⟨s, rfl, h1, h4, h5, h6⟩
  have hcv := conv_string h1
  have H5 := hid h5
  have H6 := hid h6
  obtain ⟨ao, c, hf⟩ := h1.form
  subst hf
  clear h1 h4 h5 h6
  go_wp2
  refine leaves_cons (f := 216) (args := #[.pointer (some ⟨b, 0, none⟩), .pointer (some ⟨w.heap.size, 0, none⟩)]) (by simp) (by simp [go_sem]) ?_
  refine (end_any .returning ((HH.out.below H2.out).only H6.out (by omega) HN.out) H5.out (by omega) (runR_size _ _).1 hp).mono ?_
  rintro e u' w4 ⟨rfl, rfl, h5, h6⟩
  exact ⟨_, results_tmp rfl _ _ _, rfl, h5, (Only.below (Only.after H2.out H6.out (Nat.le_refl _))).trans h6⟩

end Go.Proofs.YtafickhhdemjnaaGreatDoor
