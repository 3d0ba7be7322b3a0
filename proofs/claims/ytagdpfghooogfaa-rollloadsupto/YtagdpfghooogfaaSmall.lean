import Derived.Test.YtagdpfghooogfaaSame
import Derived.Laws.BytesArg
import Derived.Lib.Strings
namespace Go.Proofs.Ytagdpfghooogfaa
open Go.RowKit
set_option linter.unusedVariables false

theorem pick_any {w : World} {c : Int} (h1 : -9223372036854775808 ≤ c) (h2 : c < 9223372036854775808) : Calls Try.prog 10 #[.int .i64 c, .int .i64 8] w fun e w' => ∃ i : Nat, i < 8 ∧ e = .returned (.int .i64 (i : Int)) ∧ w' = w := by
  by_cases h0 : c < 0
  · have e0 : decide (c < 0) = true := by simpa using h0
    have e1 : IntKind.i64.wrap (c + 1) = c + 1 := by rw [IntKind.wrap_i64]; omega
    have e2 : IntKind.i64.wrap (-(c + 1)) = -(c + 1) := by rw [IntKind.wrap_i64]; omega
    have F : Hid (∃ i : Nat, i < 8 ∧ -(c + 1).tmod 8 = (i : Int)) := hid (by
      obtain ⟨m, hm⟩ : ∃ m : Nat, c + 1 = -(m : Int) := ⟨(-(c + 1)).toNat, by omega⟩
      refine ⟨m % 8, Nat.mod_lt _ (by omega), ?_⟩
      rw [hm, Int.neg_tmod, Int.neg_neg]
      rfl)
    go_enter Try.func10, Try.ntmps10
    go_wp2
    go_ret
    obtain ⟨i, hi, hF⟩ := F.out
    exact ⟨i, hi, by rw [← hF]; rfl, rfl⟩
  · have e0 : decide (c < 0) = false := by simpa using h0
    go_enter Try.func10, Try.ntmps10
    go_wp2
    go_ret
    exact ⟨(c % 8).toNat, by omega, by rw [show (((c % 8).toNat : Nat) : Int) = c % 8 by omega]; rfl, rfl⟩

theorem strB_inj {a b : List UInt8} (h : strB a = strB b) : a = b := by simpa [strB] using h

set_option maxHeartbeats 1000000 in
set_option maxRecDepth 1000000 in
theorem same_any {w : World} {s t : Value} {l m : List UInt8} (hs : Reads w s l) (ht : Reads w t m) : Calls Try.prog 26 #[s, t] w fun e w' => e = .returned (.bool (decide (l = m))) ∧ w' = w := by
  have g1 := conv_string hs
  have g2 := conv_string ht
  obtain ⟨a1, c1, rfl⟩ := hs.form
  obtain ⟨a2, c2, rfl⟩ := ht.form
  have e : ((strB l).toList == (strB m).toList) = decide (l = m) := by
    by_cases h : l = m
    · subst h; simp
    · have : (strB l).toList ≠ (strB m).toList := fun e => h (strB_inj (toList_inj e))
      simp [h, this]
  have F : Hid (((strB l).toList == (strB m).toList) = decide (l = m)) := hid e
  generalize strB l = x1 at *
  generalize strB m = x2 at *
  generalize l.length = n1 at *
  generalize m.length = n2 at *
  clear hs ht e
  generalize hq : (x1.toList == x2.toList) = q at F
  go_enter Try.func26, Try.ntmps26
  go_wp2
  go_ret
  exact ⟨by rw [← F.out]; rfl, rfl⟩

/-- All places are as they may be. -/
def OkP (ps : List Pl) : Prop := ps.length = 8 ∧ ∀ p ∈ ps, p.ok
def atP (ps : List Pl) (c : Int) : Pl := if 0 ≤ c ∧ c < 8 then ps.getD c.toNat .zero else .zero
def Pl.bytes (p : Pl) : List UInt8 := if p.on then rowB p.n p.a p.c p.k p.l else []

theorem OkP.at {ps : List Pl} (h : OkP ps) (c : Int) : (atP ps c).ok := by
  unfold atP
  split
  · have hl : c.toNat < ps.length := by rw [h.1]; omega
    have : ps.getD c.toNat .zero = ps[c.toNat] := by simp [List.getD, hl]
    rw [this]
    exact h.2 _ (List.getElem_mem hl)
  · exact .inl ⟨rfl, rfl⟩

theorem Pl.ok.off {p : Pl} (h : p.ok) (ho : p.on = false) : p = .zero := by
  rcases h with h | h
  · exact h.2
  · rw [ho] at h; cases h.1
theorem Pl.ok.may {p : Pl} (h : p.ok) (ho : p.on = true) : may p.n p.a p.c p.k p.l = true := by
  rcases h with h | h
  · rw [ho] at h; cases h.1
  · exact h.2

/-- The place of a client: where it lies, or that has tells false. -/
theorem at_cases {ps : List Pl} (h8 : ps.length = 8) (c : Int) : (∃ i : Nat, c = i ∧ i < 8 ∧ ps[i]? = some (atP ps c)) ∨ ((atP ps c) = .zero ∧ ¬ (0 ≤ c ∧ c < 8)) := by
  unfold atP
  split
  · rename_i hc
    obtain ⟨i, rfl⟩ : ∃ i : Nat, c = i := ⟨c.toNat, by omega⟩
    exact .inl ⟨i, rfl, by omega, by simp [List.getD, show i < ps.length by omega]⟩
  · rename_i hc
    exact .inr ⟨rfl, hc⟩

theorem has_off {g : Nat} {ps : List Pl} {cs : List Comp} (h8 : ps.length = 8) (c : Int) (ho : (atP ps c).on = false) : ∀ w', All (rollL g ps ++ cs) w' → Calls Try.prog 29 #[.pointer (some ⟨g, 0, none⟩), .int .i64 c] w' fun e w2 => e = .returned (.bool false) ∧ w2 = w' := by
  intro w' hw'
  rcases at_cases h8 c with ⟨i, hc, hi, hp⟩ | ⟨_, hc⟩
  · have := has_any (hw'.place hp).1 hp hi
    rw [ho] at this
    subst hc
    exact this
  · exact has_none hc

theorem tell_any {g : Nat} {ps : List Pl} {cs : List Comp} {w : World} (h : All (rollL g ps ++ cs) w) (hok : OkP ps) (c : Int) : Calls Try.prog 23 #[.pointer (some ⟨g, 0, none⟩), .int .i64 c] w fun e w' => ∃ so sc, e = .returned (.slice so (atP ps c).bytes.length sc) ∧ All (ownC 5 (.slice so (atP ps c).bytes.length sc) (cellsB (atP ps c).bytes) :: (rollL g ps ++ cs)) w' := by
  cases ho : (atP ps c).on with
  | false =>
    have eb : (atP ps c).bytes = [] := by simp [Pl.bytes, ho]
    rw [eb]
    exact (bytes_off h (has_off hok.1 c ho)).mono fun e w' ⟨h1, h2⟩ => ⟨none, 0, h1, h2.addNil⟩
  | true =>
    have hm := (hok.at c).may ho
    have eb : (atP ps c).bytes = rowB (atP ps c).n (atP ps c).a (atP ps c).c (atP ps c).k (atP ps c).l := by simp [Pl.bytes, ho]
    rw [eb]
    rcases at_cases hok.1 c with ⟨i, hc, hi, hp⟩ | ⟨hz, _⟩
    · have := bytes_on h hp hi ho hm
      rw [← hc] at this
      exact this
    · rw [hz] at ho; cases ho

theorem last_any {g : Nat} {ps : List Pl} {cs : List Comp} {w : World} (h : All (rollL g ps ++ cs) w) (hok : OkP ps) (c : Int) : Calls Try.prog 22 #[.pointer (some ⟨g, 0, none⟩), .int .i64 c] w fun e w' => ∃ so sc, e = .returned (.tuple #[rowV (atP ps c).n (atP ps c).a (atP ps c).c (atP ps c).k (.slice so (atP ps c).l.length sc), .bool (atP ps c).on]) ∧ All (ownC 9 (.slice so (atP ps c).l.length sc) (cellsT (atP ps c).l) :: (rollL g ps ++ cs)) w' := by
  cases ho : (atP ps c).on with
  | false =>
    have ez := (hok.at c).off ho
    rw [ez]
    exact (last_off h (has_off hok.1 c ho)).mono fun e w' ⟨h1, h2⟩ => ⟨none, 0, h1, h2.addNil⟩
  | true =>
    have hm := (hok.at c).may ho
    rcases at_cases hok.1 c with ⟨i, hc, hi, hp⟩ | ⟨hz, _⟩
    · have := last_on h hp hi ho (by have := may_parts hm; omega)
      rw [← hc] at this
      exact this
    · rw [hz] at ho; cases ho

end Go.Proofs.Ytagdpfghooogfaa
