import Derived.Test.YtkcepkehgkkkbabDoorByte
import Derived.Deep.Draws
namespace Go.Proofs.YtkcepkehgkkkbabDoor
open Go.RowKit
set_option linter.unusedVariables false

theorem Reads.at_u8 {w : World} {ao : Option Addr} {n c : Nat} {l : List UInt8} (h : Reads w (.slice ao n c) l) (k : Nat) (hk : k < l.length) : ∃ g o, ao = some ⟨g, o, none⟩ ∧ w.cell? ⟨g, o + k, none⟩ = some (.int .u8 ((l.getD k 0).toNat : Int)) := h.at k hk

set_option maxHeartbeats 1600000 in
set_option maxRecDepth 1000000 in
/-- Lists that are alike. -/
theorem same_true {w : World} {s t : Value} {l : List UInt8} (hs : Reads w s l) (ht : Reads w t l) (hlen : l.length ≤ 140737488355328) :
    Calls Tryd.prog 15 #[s, t] w fun e w' => e = .returned (.bool true) ∧ Below w.heap.size w w' := by
  obtain ⟨ao, c, hf⟩ := hs.form
  obtain ⟨ao', c', hf'⟩ := ht.form
  subst hf hf'
  have HS := hid hs
  have HT := hid ht
  clear hs ht
  go_enter Tryd.func15, Tryd.ntmps15
  go_wp2
  go_loopw [5] (fun iv wr => ∃ (k q : Nat), k ≤ l.length ∧ iv = .int .i64 (k : Int) ∧ wr = w.drewN q) (fun iv _ => l.length - (intOf iv).toNat)
  case atStart => exact ⟨0, 0, by omega, rfl, rfl⟩
  case round =>
    obtain ⟨k, q, hk, rfl, rfl⟩ := hrel
    by_cases hlt : k < l.length
    · obtain ⟨g, o, rfl, h1⟩ := HS.out.at_u8 k hlt
      obtain ⟨g', o', rfl, h2⟩ := HT.out.at_u8 k hlt
      generalize (l.getD k 0).toNat = x at h1 h2
      have hb : ((x : Int) != (x : Int)) = false := by simp
      go_wp2
      go_region
      go_wp2
      go_roundw
      case rel => exact ⟨k + 1, q + 1, by omega, by go_num, by simp⟩
      case measure => simp [intOf]; omega
    · go_wp2
      go_ret
      exact ⟨rfl, ⟨rfl, rfl, rfl, Nat.le_refl _, fun _ _ => rfl⟩⟩

set_option maxHeartbeats 1600000 in
set_option maxRecDepth 1000000 in
/-- Texts that are alike. -/
theorem sameTexts_true {w : World} {s t : Value} {l : List ByteArray} (hs : Txts w s l) (ht : Txts w t l) (hlen : l.length ≤ 140737488355328) :
    Calls Tryd.prog 22 #[s, t] w fun e w' => e = .returned (.bool true) ∧ Below w.heap.size w w' := by
  obtain ⟨ao, c, hf⟩ := hs.form
  obtain ⟨ao', c', hf'⟩ := ht.form
  subst hf hf'
  have HS := hid hs
  have HT := hid ht
  clear hs ht
  go_enter Tryd.func22, Tryd.ntmps22
  go_wp2
  go_loopw [5] (fun iv wr => ∃ (k q : Nat), k ≤ l.length ∧ iv = .int .i64 (k : Int) ∧ wr = w.drewN q) (fun iv _ => l.length - (intOf iv).toNat)
  case atStart => exact ⟨0, 0, by omega, rfl, rfl⟩
  case round =>
    obtain ⟨k, q, hk, rfl, rfl⟩ := hrel
    by_cases hlt : k < l.length
    · obtain ⟨g, o, rfl, _, h1⟩ := HS.out.at hlt
      obtain ⟨g', o', rfl, _, h2⟩ := HT.out.at hlt
      generalize l[k] = x at h1 h2
      have hb : (x.toList == x.toList) = true := by simp
      go_wp2
      go_region
      go_wp2
      go_roundw
      case rel => exact ⟨k + 1, q + 1, by omega, by go_num, by simp⟩
      case measure => simp [intOf]; omega
    · go_wp2
      go_ret
      exact ⟨rfl, ⟨rfl, rfl, rfl, Nat.le_refl _, fun _ _ => rfl⟩⟩

set_option maxRecDepth 1000000 in
/-- Results that are alike. -/
theorem sameResult_true {w : World} (c n : Int) {s t : Value} {l : List ByteArray} (hs : Txts w s l) (ht : Txts w t l) (hlen : l.length ≤ 140737488355328) :
    Calls Tryd.prog 14 #[resV c n s, resV c n t] w fun e w' => e = .returned (.bool true) ∧ Below w.heap.size w w' := by
  obtain ⟨ao, cp, hf⟩ := hs.form
  obtain ⟨ao', cp', hf'⟩ := ht.form
  subst hf hf'
  have HS := hid hs
  have HT := hid ht
  clear hs ht
  go_enter Tryd.func14, Tryd.ntmps14
  go_wp2_with fail
  refine (sameTexts_true ((HS.out.alloc _).alloc _) ((HT.out.alloc _).alloc _) hlen).mono ?_
  rintro e w1 ⟨rfl, B1⟩
  have B2 := hid (b2 (b2 (ba w _) (ba _ _)) B1)
  clear B1
  go_wp2
  go_ret
  exact ⟨rfl, B2.out⟩

theorem isFree_any {w : World} {P i : Nat} {nm : ByteArray} (c0 : w.cell? ⟨P, i * 4, none⟩ = some (.string nm)) : Calls Tryd.prog 23 #[.pointer (some ⟨P, i * 4, none⟩)] w fun e w' => e = .returned (.bool nm.toList.isEmpty) ∧ w' = w := by
  go_enter Tryd.func23, Tryd.ntmps23
  go_wp2
  go_ret
  exact ⟨rfl, rfl⟩

set_option maxHeartbeats 1600000 in
set_option maxRecDepth 1000000 in
theorem Slot_one {P i b n : Nat} {qs : List Qv} {nm : ByteArray} {first : Nat} {iv : Value} {items : List ByteArray} {D : DataW Unit} {cs : List Comp} {w : World} (h : All (blkC P (flat qs) 56 :: ownC 9 iv (txtV items) :: mapC b n D :: cs) w) (h8 : qs.length = 8) (hq : qs[i]? = some ⟨nm, first, iv, .map (some b)⟩) (hn : n ≤ 1048576)
    (hne : nm.size ≠ 0) (hnm : nm.size ≤ 1048576) (hfs : first < 1152921504606846976) (hit : bulkT items ≤ 1099511627776) (hil : items.length < 1048576) {x0 : List UInt8} {c0 : Nat} (hx : x0.length ≤ 1048576) (hD : ∀ x, Maps.has D (.string x) = true ↔ x = x0) (hc : leftD D (.string x0) = c0) (hc0 : c0 < 1152921504606846976) (hsz : Maps.size D = 1) :
    Calls Tryd.prog 18 #[.pointer (some ⟨P, 0, none⟩), .int .i64 (i : Int)] w fun e w' => ∃ so sn sc, e = .returned (.slice so sn sc) ∧ All (ownC 5 (.slice so sn sc) (cellsB (slotB nm first items [(x0, (c0 : Int))])) :: blkC P (flat qs) 56 :: ownC 9 iv (txtV items) :: mapC b n D :: cs) w' := by
  have hi8 : i < 8 := by have := (List.getElem?_eq_some_iff.1 hq).1; omega
  have HF := hid (isFree_any (h.q0 List.mem_cons_self hq))
  rw [nonempty nm hne] at HF
  have HB := hid (bytes_one h hq hn hnm hfs hit hil hx hD hc hc0 hsz)
  have i1 : decide ((i : Int) < 0) = false := by simp
  have i2 : decide ((8 : Int) ≤ (i : Int)) = false := by simp; omega
  have i3 : (0 : Int) ≤ (i : Int) := by omega
  have i4 : (i : Int) < 8 := by omega
  clear h hq hD hc
  go_enter Tryd.func18, Tryd.ntmps18
  go_wp2_with fail
  refine HF.out.mono ?_
  rintro e w1 ⟨rfl, rfl⟩
  go_wp2_with fail
  refine HB.out.mono ?_
  rintro e w2 ⟨so, sn, sc, rfl, A2⟩
  have A2 := hid A2
  clear HB HF
  go_wp2
  go_ret
  exact ⟨so, sn, sc, rfl, A2.out⟩
end Go.Proofs.YtkcepkehgkkkbabDoor
