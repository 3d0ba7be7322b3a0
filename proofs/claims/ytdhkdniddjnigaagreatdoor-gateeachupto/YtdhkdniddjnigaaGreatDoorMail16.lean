import Derived.Test.YtdhkdniddjnigaaGreatDoorMail15
namespace Go.Proofs.YtdhkdniddjnigaaGreatDoor
open Go.RowKit
set_option linter.unusedVariables false

/-- An entry. -/
structure Ent where
  c : Int
  n : Int
  k : Int
  nm : ByteArray
  tx : ByteArray
  m : Int
  q : Int
def Ent.cells (e : Ent) : List Value := [.int .i64 e.c, .int .i64 e.n, .int .i64 e.k, .string e.nm, .string e.tx, .int .i64 e.m, .int .i64 e.q]
abbrev Ent.V (e : Ent) : Value := .agg #[.int .i64 e.c, .int .i64 e.n, .int .i64 e.k, .string e.nm, .string e.tx, .int .i64 e.m, .int .i64 e.q]
/-- Entries that are read. -/
def Ents (w : World) (ao : Option Addr) (l : List Ent) : Prop := ∀ (i : Nat) (x : Ent), l[i]? = some x → ∃ g o, ao = some ⟨g, o, none⟩ ∧ g < w.heap.size ∧ ∀ j u, x.cells[j]? = some u → w.cell? ⟨g, o + i * 7 + j, none⟩ = some u
theorem Ents.later {w w' : World} {ao : Option Addr} {l : List Ent} (h : Ents w ao l) (hb : Below w.heap.size w w') : Ents w' ao l := by
  intro i x hx
  obtain ⟨g, o, ea, hg, hc⟩ := h i x hx
  exact ⟨g, o, ea, Nat.lt_of_lt_of_le hg hb.size, fun j u hu => cell_under hb hg (hc j u hu)⟩
/-- May an entry be? -/
def entB (x : Ent) : Bool := decide (0 ≤ x.c ∧ x.c ≤ 7 ∧ 1 ≤ x.n ∧ x.n ≤ 1099511627776 ∧ chkA x.k x.nm.size x.tx.size x.m x.q = 0)
set_option maxHeartbeats 1600000 in
set_option maxRecDepth 1000000 in
theorem ents_any {w : World} (hT : Tab w) {ao : Option Addr} {l : List Ent} (h : Ents w ao l) (cp : Nat) (hl : l.length ≤ 9223372036854775807) : Calls Tryz.prog 199 #[.slice ao l.length cp] w fun e w' => e = .returned (.bool (l.all entB)) ∧ Below w.heap.size w w' := by
  have HE := hid h
  have HT := hid hT
  clear h hT
  go_enter Tryz.func199, Tryz.ntmps199
  go_wp2
  go_loopw [7] (fun iv wr => ∃ k : Nat, iv = .int .i64 (k : Int) ∧ k ≤ l.length ∧ Hid (∀ j (hj : j < k) (hl : j < l.length), entB l[j] = true) ∧ Hid (Below w.heap.size w wr)) (fun iv _ => l.length - (intOf iv).toNat)
  case atStart => exact ⟨0, rfl, Nat.zero_le _, fun j hj => absurd hj (by omega), hid (Below.refl _ _)⟩
  case round =>
    obtain ⟨k, rfl, hk, hbef, hB⟩ := hrel
    by_cases hlt : k < l.length
    · obtain ⟨x, hx⟩ : ∃ x, Hid (l[k]'hlt = x) := ⟨_, hid rfl⟩
      obtain ⟨g, o, ea, hg, hc⟩ := (HE.out.later hB.out) k x (by rw [List.getElem?_eq_getElem hlt, hx.out])
      subst ea
      have el : decide ((k : Int) < (l.length : Int)) = true := by simpa using hlt
      have r0 : wr.cell? ⟨g, o + k * 7, none⟩ = some (.int .i64 x.c) := hc 0 _ rfl
      have r1 : wr.cell? ⟨g, o + k * 7 + 1, none⟩ = some (.int .i64 x.n) := hc 1 _ rfl
      have r2 : wr.cell? ⟨g, o + k * 7 + 2, none⟩ = some (.int .i64 x.k) := hc 2 _ rfl
      have r3 : wr.cell? ⟨g, o + k * 7 + 3, none⟩ = some (.string x.nm) := hc 3 _ rfl
      have r4 : wr.cell? ⟨g, o + k * 7 + 4, none⟩ = some (.string x.tx) := hc 4 _ rfl
      have r5 : wr.cell? ⟨g, o + k * 7 + 5, none⟩ = some (.int .i64 x.m) := hc 5 _ rfl
      have r6 : wr.cell? ⟨g, o + k * 7 + 6, none⟩ = some (.int .i64 x.q) := hc 6 _ rfl
      have BA : Hid (∀ ob, Below w.heap.size w (wr.alloc ob)) := hid (fun ob => hB.out.trans ((ba wr ob).mono hB.out.size))
      have CK : Hid (∀ W, Below w.heap.size w W → Calls Tryz.prog 169 #[opV x.k x.nm x.tx x.m x.q] W fun e w' => e = .returned (.int .i64 (chkA x.k x.nm.size x.tx.size x.m x.q)) ∧ Below w.heap.size w w') := hid (fun W hW => by
        refine (check_any (HT.out.below hW) x.k x.nm x.tx x.m x.q).mono ?_
        rintro e w' ⟨rfl, hb⟩
        exact ⟨rfl, hW.trans (hb.mono hW.size)⟩)
      have NO : Hid (entB x = false → l.all entB = false) := hid (fun hf => by
        rw [List.all_eq_false]
        exact ⟨x, by rw [← hx.out]; exact List.getElem_mem hlt, by simp [hf]⟩)
      clear hc hB
      by_cases c0 : x.c < 0
      · have F := hid (NO.out (by simp only [entB, decide_eq_false_iff_not]; omega))
        have e0 : decide (x.c < 0) = true := by simpa using c0
        clear c0
        go_wp2
        go_ret
        exact ⟨by rw [F.out]; rfl, BA.out _⟩
      have e0 : decide (x.c < 0) = false := by simpa using c0
      by_cases c1 : 8 ≤ x.c
      · have F := hid (NO.out (by simp only [entB, decide_eq_false_iff_not]; omega))
        have e1 : decide (8 ≤ x.c) = true := by simpa using c1
        clear c0 c1
        go_wp2
        go_ret
        exact ⟨by rw [F.out]; rfl, BA.out _⟩
      have e1 : decide (8 ≤ x.c) = false := by simpa using c1
      by_cases c2 : x.n < 1
      · have F := hid (NO.out (by simp only [entB, decide_eq_false_iff_not]; omega))
        have e2 : decide (x.n < 1) = true := by simpa using c2
        clear c0 c1 c2
        go_wp2
        go_ret
        exact ⟨by rw [F.out]; rfl, BA.out _⟩
      have e2 : decide (x.n < 1) = false := by simpa using c2
      by_cases c3 : 1099511627776 < x.n
      · have F := hid (NO.out (by simp only [entB, decide_eq_false_iff_not]; omega))
        have e3 : decide (1099511627776 < x.n) = true := by simpa using c3
        clear c0 c1 c2 c3
        go_wp2
        go_ret
        exact ⟨by rw [F.out]; rfl, BA.out _⟩
      have e3 : decide (1099511627776 < x.n) = false := by simpa using c3
      have Y : Hid (chkA x.k x.nm.size x.tx.size x.m x.q = 0 → entB x = true) := hid (fun h => by simp only [entB, decide_eq_true_eq]; omega)
      have N : Hid (chkA x.k x.nm.size x.tx.size x.m x.q ≠ 0 → entB x = false) := hid (fun h => by simp only [entB, decide_eq_false_iff_not]; omega)
      clear c0 c1 c2 c3
      generalize chkA x.k x.nm.size x.tx.size x.m x.q = z at CK Y N
      go_wp2_with (go_at_call 169; refine (CK.out _ (BA.out _)).mono ?_; rintro e w1 ⟨rfl, hB1⟩; have B1 := hid hB1; clear hB1; by_cases hz : (z != 0) = true)
      · have F := hid (NO.out (N.out (by simpa using hz)))
        go_wp2
        go_ret
        exact ⟨by rw [F.out]; rfl, B1.out⟩
      · have hz' : (z != 0) = false := by simpa using hz
        have F := hid (Y.out (by simpa using hz))
        clear hz
        go_wp2
        go_roundw
        case rel => exact ⟨k + 1, by go_num, by omega, fun j hj hl => by rcases Nat.lt_succ_iff_lt_or_eq.1 hj with h | h; exact hbef.out j h hl; subst h; rw [hx.out]; exact F.out, B1⟩
        case measure => simp [intOf]; omega
    · have el : decide ((k : Int) < (l.length : Int)) = false := by simp; omega
      go_wp2
      go_ret
      exact ⟨by rw [List.all_eq_true.2]; rfl; intro y hy; obtain ⟨j, hj, rfl⟩ := List.getElem_of_mem hy; exact hbef.out j (by omega) hj, hB.out⟩
end Go.Proofs.YtdhkdniddjnigaaGreatDoor
