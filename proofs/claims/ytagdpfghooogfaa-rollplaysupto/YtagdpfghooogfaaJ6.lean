import Derived.Test.YtagdpfghooogfaaSame
import Derived.Laws.BytesArg
import Derived.Lib.Strings
import Derived.Test.YtagdpfghooogfaaJ4
import Derived.Deep.DeepCutAuto
namespace Go.Proofs.Ytagdpfghooogfaa
open Go.RowKit
set_option linter.unusedVariables false

theorem pick_any {w : World} {c : Int} (h1 : -9223372036854775808 ≤ c) (h2 : c < 9223372036854775808) : Calls Try.prog 10 #[.int .i64 c, .int .i64 8] w fun e w' => ∃ i : Nat, i < 8 ∧ e = .returned (.int .i64 (i : Int)) ∧ w' = w := by
  by_cases h0 : c < 0
  · have e0 : decide (c < 0) = true := by simpa using h0
    have e1 : IntKind.i64.wrap (c + 1) = c + 1 := by rw [IntKind.wrap_i64]; omega
    have e2 : IntKind.i64.wrap (-(c + 1)) = -(c + 1) := by rw [IntKind.wrap_i64]; omega
    have F : Hid (∃ i : Nat, i < 8 ∧ -(c + 1).tmod 8 = (i : Int)) := hid (by
      obtain ⟨m, hm⟩ : ∃ m : Nat, c + 1 = -(m : Int) := ⟨(-(c + 1)).toNat, by omega⟩
      refine ⟨m % 8, Nat.mod_lt _ (by omega), ?_⟩
      rw [hm, Int.neg_tmod, Int.neg_neg]
      rfl)
    go_enter Try.func10, Try.ntmps10
    go_wp2
    go_ret
    obtain ⟨i, hi, hF⟩ := F.out
    exact ⟨i, hi, by rw [← hF]; rfl, rfl⟩
  · have e0 : decide (c < 0) = false := by simpa using h0
    go_enter Try.func10, Try.ntmps10
    go_wp2
    go_ret
    exact ⟨(c % 8).toNat, by omega, by rw [show (((c % 8).toNat : Nat) : Int) = c % 8 by omega]; rfl, rfl⟩

theorem strB_inj {a b : List UInt8} (h : strB a = strB b) : a = b := by simpa [strB] using h

set_option maxHeartbeats 1000000 in
set_option maxRecDepth 1000000 in
theorem same_any {w : World} {s t : Value} {l m : List UInt8} (hs : Reads w s l) (ht : Reads w t m) : Calls Try.prog 26 #[s, t] w fun e w' => e = .returned (.bool (decide (l = m))) ∧ w' = w := by
  have g1 := conv_string hs
  have g2 := conv_string ht
  obtain ⟨a1, c1, rfl⟩ := hs.form
  obtain ⟨a2, c2, rfl⟩ := ht.form
  have e : ((strB l).toList == (strB m).toList) = decide (l = m) := by
    by_cases h : l = m
    · subst h; simp
    · have : (strB l).toList ≠ (strB m).toList := fun e => h (strB_inj (toList_inj e))
      simp [h, this]
  have F : Hid (((strB l).toList == (strB m).toList) = decide (l = m)) := hid e
  generalize strB l = x1 at *
  generalize strB m = x2 at *
  generalize l.length = n1 at *
  generalize m.length = n2 at *
  clear hs ht e
  generalize hq : (x1.toList == x2.toList) = q at F
  go_enter Try.func26, Try.ntmps26
  go_wp2
  go_ret
  exact ⟨by rw [← F.out]; rfl, rfl⟩

/-- All places are as they may be. -/
def OkP (ps : List Pl) : Prop := ps.length = 8 ∧ ∀ p ∈ ps, p.ok
def atP (ps : List Pl) (c : Int) : Pl := if 0 ≤ c ∧ c < 8 then ps.getD c.toNat .zero else .zero
def Pl.bytes (p : Pl) : List UInt8 := if p.on then rowB p.n p.a p.c p.k p.l else []

theorem OkP.at {ps : List Pl} (h : OkP ps) (c : Int) : (atP ps c).ok := by
  unfold atP
  split
  · have hl : c.toNat < ps.length := by rw [h.1]; omega
    have : ps.getD c.toNat .zero = ps[c.toNat] := by simp [List.getD, hl]
    rw [this]
    exact h.2 _ (List.getElem_mem hl)
  · exact .inl ⟨rfl, rfl, rfl, rfl, rfl, rfl⟩

theorem Pl.ok.off {p : Pl} (h : p.ok) (ho : p.on = false) : p.none := by
  rcases h with h | h
  · exact h.2
  · rw [ho] at h; cases h.1
theorem Pl.ok.may {p : Pl} (h : p.ok) (ho : p.on = true) : may p.n p.a p.c p.k p.l = true := by
  rcases h with h | h
  · rw [ho] at h; cases h.1
  · exact h.2

/-- The place of a client: where it lies, or that has tells false. -/
theorem at_cases {ps : List Pl} (h8 : ps.length = 8) (c : Int) : (∃ i : Nat, c = i ∧ i < 8 ∧ ps[i]? = some (atP ps c)) ∨ ((atP ps c) = .zero ∧ ¬ (0 ≤ c ∧ c < 8)) := by
  unfold atP
  split
  · rename_i hc
    obtain ⟨i, rfl⟩ : ∃ i : Nat, c = i := ⟨c.toNat, by omega⟩
    exact .inl ⟨i, rfl, by omega, by simp [List.getD, show i < ps.length by omega]⟩
  · rename_i hc
    exact .inr ⟨rfl, hc⟩

theorem has_off {g : Nat} {ps : List Pl} {cs : List Comp} (h8 : ps.length = 8) (c : Int) (ho : (atP ps c).on = false) : ∀ w', All (rollL g ps ++ cs) w' → Calls Try.prog 29 #[.pointer (some ⟨g, 0, none⟩), .int .i64 c] w' fun e w2 => e = .returned (.bool false) ∧ w2 = w' := by
  intro w' hw'
  rcases at_cases h8 c with ⟨i, hc, hi, hp⟩ | ⟨_, hc⟩
  · have := has_any (hw'.place hp).1 hp hi
    rw [ho] at this
    subst hc
    exact this
  · exact has_none hc

theorem tell_any {g : Nat} {ps : List Pl} {cs : List Comp} {w : World} (h : All (rollL g ps ++ cs) w) (hok : OkP ps) (c : Int) : Calls Try.prog 23 #[.pointer (some ⟨g, 0, none⟩), .int .i64 c] w fun e w' => ∃ so sc, e = .returned (.slice so (atP ps c).bytes.length sc) ∧ All (ownC 5 (.slice so (atP ps c).bytes.length sc) (cellsB (atP ps c).bytes) :: (rollL g ps ++ cs)) w' := by
  cases ho : (atP ps c).on with
  | false =>
    have eb : (atP ps c).bytes = [] := by simp [Pl.bytes, ho]
    rw [eb]
    exact (bytes_off h (has_off hok.1 c ho)).mono fun e w' ⟨h1, h2⟩ => ⟨none, 0, h1, h2.addNil⟩
  | true =>
    have hm := (hok.at c).may ho
    have eb : (atP ps c).bytes = rowB (atP ps c).n (atP ps c).a (atP ps c).c (atP ps c).k (atP ps c).l := by simp [Pl.bytes, ho]
    rw [eb]
    rcases at_cases hok.1 c with ⟨i, hc, hi, hp⟩ | ⟨hz, _⟩
    · have := bytes_on h hp hi ho hm
      rw [← hc] at this
      exact this
    · rw [hz] at ho; cases ho

theorem last_any {g : Nat} {ps : List Pl} {cs : List Comp} {w : World} (h : All (rollL g ps ++ cs) w) (hok : OkP ps) (c : Int) : Calls Try.prog 22 #[.pointer (some ⟨g, 0, none⟩), .int .i64 c] w fun e w' => ∃ so sc, e = .returned (.tuple #[rowV (atP ps c).n (atP ps c).a (atP ps c).c (atP ps c).k (.slice so (atP ps c).l.length sc), .bool (atP ps c).on]) ∧ All (ownC 9 (.slice so (atP ps c).l.length sc) (cellsT (atP ps c).l) :: (rollL g ps ++ cs)) w' := by
  cases ho : (atP ps c).on with
  | false =>
    obtain ⟨e1, e2, e3, e4, e5⟩ := (hok.at c).off ho
    rw [e1, e2, e3, e4, e5]
    exact (last_off h (has_off hok.1 c ho)).mono fun e w' ⟨h1, h2⟩ => ⟨none, 0, h1, h2.addNil⟩
  | true =>
    have hm := (hok.at c).may ho
    rcases at_cases hok.1 c with ⟨i, hc, hi, hp⟩ | ⟨hz, _⟩
    · have := last_on h hp hi ho (by have := may_parts hm; omega)
      rw [← hc] at this
      exact this
    · rw [hz] at ho; cases ho

end Go.Proofs.Ytagdpfghooogfaa

namespace Go.Proofs.Ytagdpfghooogfaa
open Go.RowKit
set_option linter.unusedVariables false

/-- The document's reader. -/
structure XR (w : World) (b : Nat) (v : Value) (B : List UInt8) (at_ : Nat) (e : Int) : Prop where
  box : w.heap[b]? = some (.cells #[v, .int .i64 (at_ : Int), .int .i64 e] 122 (0, 0))
  row : w.ownsRow 0 5 1 v B.length (cellsB B)
  apart : v.ownBlock ≠ some b
  le : at_ ≤ B.length

/-- What it has left. -/
def rsX (B : List UInt8) (at_ : Nat) (e : Int) : List UInt8 := if e = 0 then B.drop at_ else []

theorem XR.form {w : World} {b : Nat} {v : Value} {B : List UInt8} {at_ : Nat} {e : Int} (h : XR w b v B at_ e) : ∃ ao c, v = .slice ao B.length c := owns_form h.row

theorem XR.byte {w : World} {b : Nat} {ao : Option Addr} {n c : Nat} {B : List UInt8} {at_ : Nat} {e : Int} (h : XR w b (.slice ao n c) B at_ e) (k : Nat) (hk : at_ + k < B.length) : ∃ g, ao = some ⟨g, 0, none⟩ ∧ w.cell? ⟨g, at_ + k, none⟩ = some (.int .u8 (((B.drop at_).getD k 0).toNat : Int)) := by
  have hr := h.row
  have hc := fun g => World.ownsRow.cells hr (g := g)
  rcases hr.2 with ⟨e, e0⟩ | ⟨g, cap, _, ev, _⟩
  · omega
  · simp only [Value.slice.injEq] at ev
    refine ⟨g, ev.1, ?_⟩
    have e1 : (B.drop at_).getD k 0 = B[at_ + k] := by
      rw [List.getD_eq_getElem?_getD, List.getElem?_drop, List.getElem?_eq_getElem hk]
      rfl
    rw [e1]
    have := hc g (by rw [ev.1]; rfl) (at_ + k) (.int .u8 ((B[at_ + k]).toNat : Int)) (by simp [cellsB, hk])
    simpa [Addr.add_lit] using this

theorem xor_form (acc x k most top : Nat) (hx : x < 256) (h : acc < 128 ^ k) (hk : k < most) (hm : most ≤ 10) (ht2 : most = 10 → top ≤ 1) (hw : ¬ (k + 1 = most ∧ top < x)) :
    bits BinOp.or IntKind.u64 (acc : Int) (IntKind.u64.wrap ((x : Int) % 128 * 2 ^ (7 * k))) = ((acc + x % 128 * 128 ^ k : Nat) : Int) := by
  have ha := acc_lt acc x k most top h hk hm ht2 hw
  have e3 : (x : Int) % 128 * 2 ^ (7 * k) = ((x % 128 * 128 ^ k : Nat) : Int) := by
    have : (2 : Nat) ^ (7 * k) = 128 ^ k := by rw [Nat.pow_mul]
    rw [← this]
    push_cast
    rfl
  have e4 : IntKind.u64.wrap ((x % 128 * 128 ^ k : Nat) : Int) = ((x % 128 * 128 ^ k : Nat) : Int) := by rw [IntKind.wrap_u64]; omega
  rw [e3, e4, u64_or_nat _ _ (by omega) ha.2.2, or_add _ _ _ h]

set_option maxHeartbeats 3200000 in
set_option maxRecDepth 1000000 in
theorem xlook_any {w : World} {b : Nat} {v : Value} {B : List UInt8} {at_ : Nat} {e : Int} (h : XR w b v B at_ e) (most top : Nat) (lI tI : Int) (hlI : lI = (most : Int) - 1) (htI : tI = (top : Int)) (hm0 : 2 ≤ most) (hm1 : most ≤ 10) (ht1 : top < 128) (ht2 : most = 10 → top ≤ 1) (hlen : B.length ≤ 140737488355328) :
    Calls Try.prog 73 #[.pointer (some ⟨b, 0, none⟩), .int .i64 lI, .int .u8 tI] w fun e w' => e = .returned (.tuple #[.int .u64 ((look most top 0 (B.drop at_) 0).1 : Int), .int .i64 ((look most top 0 (B.drop at_) 0).2.1 : Int), .int .i64 ((look most top 0 (B.drop at_) 0).2.2 : Int)]) ∧ ∃ q, w' = w.drewN q := by
  subst htI
  obtain ⟨last, rfl⟩ : ∃ last, most = last + 1 := ⟨most - 1, by omega⟩
  have hlI' : lI = (last : Int) := by omega
  subst hlI'
  obtain ⟨ao, c, hf⟩ := h.form
  subst hf
  have HR := hid h
  have c0 : w.cell? ⟨b, 0, none⟩ = some (.slice ao B.length c) := by rw [cell_at h.box]; rfl
  have c1 : w.cell? ⟨b, 1, none⟩ = some (.int .i64 (at_ : Int)) := by rw [cell_at h.box]; rfl
  have hle := h.le
  have HT2 := hid ht2
  clear h ht2 hlI
  go_enter Try.func73, Try.ntmps73
  go_wp2
  go_loopw [9, 10] (fun nv iv wr => ∃ (k acc q : Nat), at_ + k ≤ B.length ∧ k ≤ last ∧ iv = .int .i64 (k : Int) ∧ nv = .int .u64 (acc : Int) ∧ acc < 128 ^ k ∧ wr = w.drewN q ∧ Hid (look (last + 1) top k ((B.drop at_).drop k) acc = look (last + 1) top 0 (B.drop at_) 0)) (fun _ iv _ => last + 1 - (intOf iv).toNat)
  case atStart => exact ⟨0, 0, 0, by omega, by omega, rfl, rfl, by simp, rfl, rfl⟩
  case round =>
    obtain ⟨k, acc, q, hk, hkm, rfl, rfl, hacc, rfl, hlook⟩ := hrel
    by_cases hlt : at_ + k < B.length
    · obtain ⟨g, rfl, hcell⟩ := HR.out.byte k hlt
      have hdl : k < (B.drop at_).length := by rw [List.length_drop]; omega
      have HL := look_at (last + 1) top k acc (B.drop at_) hdl
      rw [hlook.out] at HL
      have hx : ((B.drop at_).getD k 0).toNat < 256 := ((B.drop at_).getD k 0).toNat_lt
      obtain ⟨x, hxe⟩ : ∃ x : Nat, x = ((B.drop at_).getD k 0).toNat := ⟨_, rfl⟩
      rw [← hxe] at HL hcell hx
      have HLL := hid HL
      have HA := hid hacc
      clear hlook HL hacc hxe hdl
      have hg1 : ¬ ((B.length : Int) ≤ (at_ : Int) + (k : Int)) := by omega
      have hg2 : (at_ : Int) + (k : Int) < (B.length : Int) := by omega
      go_wp2
      go_region
      go_wp2
      go_region
      clear hcell c0 c1 hg1 hg2
      by_cases hA : k + 1 = last + 1 ∧ top < x
      · have hb : ((k : Int) == (last : Int)) = true := by simp; omega
        have hgt : (top : Int) < (x : Int) := by omega
        have F := HLL.out
        rw [if_pos hA] at F
        have FF := hid F
        clear F hA HLL
        go_wp2
        go_ret3
        exact ⟨by rw [FF.out]; rfl, _, rfl⟩
      · have F := HLL.out
        rw [if_neg hA] at F
        have OF := hid (xor_form acc x k (last + 1) top hx HA.out (by omega) hm1 HT2.out hA)
        have AL := hid (acc_lt acc x k (last + 1) top HA.out (by omega) hm1 HT2.out hA)
        by_cases hB : 128 ≤ x
        · have hne : k + 1 ≠ last + 1 := fun e => hA ⟨e, by omega⟩
          have hb : ((k : Int) == (last : Int)) = false := by simp; omega
          have hh : decide ((x : Int) < 128) = false := by simp; omega
          rw [if_pos hB] at F
          have FF := hid F
          clear F hA HLL
          go_wp2
          go_roundw
          case rel => exact ⟨k + 1, _, _, by omega, by omega, by go_num, congrArg (Value.int .u64) OF.out, AL.out.2.1 (by omega), rfl, FF.out.symm⟩
          case measure => simp [intOf]; omega
        · have hh : (x : Int) < 128 := by omega
          rw [if_neg hB] at F
          by_cases hC : x = 0 ∧ 0 < k
          · rw [if_pos hC] at F
            have FF := hid F
            clear F HLL OF AL
            obtain ⟨rfl, hk0⟩ := hC
            by_cases hne : k = last
            · have hb : ((k : Int) == (last : Int)) = true := by simp; omega
              clear hne hA
              go_wp2
              go_ret3
              exact ⟨by rw [FF.out]; rfl, _, rfl⟩
            · have hb : ((k : Int) == (last : Int)) = false := by simp; omega
              clear hne hA
              go_wp2
              go_ret3
              exact ⟨by rw [FF.out]; rfl, _, rfl⟩
          · rw [if_neg hC] at F
            have FF := hid F
            have HC := hid hC
            have HAA := hid hA
            clear F hA HLL hC
            have fin : ∀ w' : World, (∃ q', w' = w.drewN q') → (Ending.returned (.tuple #[.int .u64 (bits BinOp.or IntKind.u64 (acc : Int) (IntKind.u64.wrap ((x : Int) % 128 * 2 ^ (7 * k)))), .int .i64 ((k : Int) + 1), .int .i64 0]) = .returned (.tuple #[.int .u64 ((look (last + 1) top 0 (B.drop at_) 0).1 : Int), .int .i64 ((look (last + 1) top 0 (B.drop at_) 0).2.1 : Int), .int .i64 ((look (last + 1) top 0 (B.drop at_) 0).2.2 : Int)]) ∧ ∃ q', w' = w.drewN q') := by
              intro w' hw'
              refine ⟨?_, hw'⟩
              rw [FF.out, OF.out]
              rfl
            have FIN := hid fin
            clear fin
            by_cases hx0 : x = 0
            · have hk0 : k = 0 := by
                by_cases h : k = 0
                · exact h
                · exact absurd ⟨hx0, by omega⟩ HC.out
              have hb2 : ((x : Int) == 0) = true := by simp; omega
              have hb3 : ((k : Int) == (last : Int)) = false := by simp; omega
              have hb4 : decide (0 < (k : Int)) = false := by simp; omega
              have hb5 : decide (0 < k) = false := by simp; omega
              clear hx0 hk0
              go_wp2
              go_ret3
              exact FIN.out _ ⟨_, rfl⟩
            · have hb2 : ((x : Int) == 0) = false := by simp; omega
              by_cases hne : k = last
              · have hb : ((k : Int) == (last : Int)) = true := by simp; omega
                have hle2 : decide ((top : Int) < (x : Int)) = false := by
                  have : ¬ top < x := fun h => HAA.out ⟨by omega, h⟩
                  simp; omega
                have hle3 : decide (top < x) = false := by simpa using hle2
                clear hne hx0
                go_wp2
                go_ret3
                exact FIN.out _ ⟨_, rfl⟩
              · have hb : ((k : Int) == (last : Int)) = false := by simp; omega
                clear hne hx0
                go_wp2
                go_ret3
                exact FIN.out _ ⟨_, rfl⟩
    · have hg1 : (B.length : Int) ≤ (at_ : Int) + (k : Int) := by omega
      have F := hlook.out
      rw [List.drop_drop, List.drop_eq_nil_of_le (by omega), look] at F
      have FF := hid F.symm
      clear F hlook
      go_wp2
      go_region
      go_wp2
      go_ret3
      exact ⟨by rw [FF.out]; rfl, _, rfl⟩

end Go.Proofs.Ytagdpfghooogfaa

namespace Go.Proofs.Ytagdpfghooogfaa
open Go.RowKit
set_option linter.unusedVariables false

/-- The document's reader, with what it has left. -/
def XRd (w : World) (b : Nat) (v : Value) (B rs : List UInt8) (place : Nat) (err : Int) : Prop := XR w b v B place err ∧ rsX B place err = rs

/-- Behind an item. -/
def XAft (w w' : World) (b : Nat) (v : Value) (B rs : List UInt8) (place : Nat) (err : Int) (r : Nat × Int) : Prop :=
  XRd w' b v B (aft rs place err r.1 r.2).1 (aft rs place err r.1 r.2).2.1 (aft rs place err r.1 r.2).2.2 ∧ Only b w w'

section
variable {w w' : World} {b : Nat} {v : Value} {B rs : List UInt8} {place : Nat} {err : Int}

theorem XR.lt (h : XR w b v B place err) : b < w.heap.size := (Array.getElem?_eq_some_iff.1 h.box).1

theorem XR.kept (h : XR w b v B place err) (hb : w'.heap[b]? = w.heap[b]?) (hr : ∀ k, v.ownBlock = some k → w'.heap[k]? = w.heap[k]?) : XR w' b v B place err := by
  refine ⟨by rw [hb]; exact h.box, ⟨h.row.1, ?_⟩, h.apart, h.le⟩
  rcases h.row.2 with hn | ⟨g, cap, cur, rfl, hg, hgg, rest⟩
  · exact Or.inl hn
  · exact Or.inr ⟨g, cap, cur, rfl, hg, by rw [hr g rfl]; exact hgg, rest⟩

theorem XR.drewN (h : XR w b v B place err) (q : Nat) : XR (w.drewN q) b v B place err := h.kept rfl (fun _ _ => rfl)

theorem XR.set (h : XR w b v B place err) (j : Nat) (u : Value) (place' : Nat) (err' : Int) (hu : #[v, .int .i64 (place : Int), .int .i64 err].setIfInBounds j u = #[v, .int .i64 (place' : Int), .int .i64 err']) (hp : place' ≤ B.length) : XR (w.setCell ⟨b, j, none⟩ u) b v B place' err' := by
  refine ⟨?_, ⟨h.row.1, ?_⟩, h.apart, hp⟩
  · rw [heap_setCell_same h.box, hu]
  · rcases h.row.2 with hn | ⟨g, cap, cur, rfl, hg, hgg, rest⟩
    · exact Or.inl hn
    · refine Or.inr ⟨g, cap, cur, rfl, hg, ?_, rest⟩
      rw [Below.heap_setCell _ _ _ _ (by intro e; exact h.apart (by simp [Value.ownBlock, e]))]
      exact hgg

/-- A good end. -/
theorem XR.went (h : XR w b v B place 0) (size : Nat) (q : Nat) (hs : size ≤ (B.drop place).length) (p : Int) (hp : p = (place : Int) + (size : Int)) : XAft w ((w.drewN q).setCell ⟨b, 1, none⟩ (.int .i64 p)) b v B (B.drop place) place 0 (size, 0) := by
  rw [List.length_drop] at hs
  have hl := h.le
  refine ⟨⟨(h.drewN q).set 1 _ _ _ ?_ ?_, ?_⟩, (Only.drewN b w q).trans (Only.setCell _ _ _)⟩
  · subst hp
    simp [aft]
  · simp [aft]; omega
  · simp [aft, rsX]

/-- A bad one. -/
theorem XR.bad (h : XR w b v B place 0) (size : Nat) (q : Nat) (e0 : Int) (he : e0 ≠ 0) : XAft w ((w.drewN q).setCell ⟨b, 2, none⟩ (.int .i64 e0)) b v B (B.drop place) place 0 (size, e0) := by
  refine ⟨⟨(h.drewN q).set 2 _ _ _ ?_ ?_, ?_⟩, (Only.drewN b w q).trans (Only.setCell _ _ _)⟩
  · simp [aft, he, keepE]
  · simpa [aft, he] using h.le
  · simp [aft, he, rsX, keepE]

/-- Broken before. -/
theorem XRd.dead (h : XRd w b v B rs place err) (he : err ≠ 0) (size : Nat) (q : Nat) (e0 : Int) (he0 : e0 ≠ 0) : XAft w (w.drewN q) b v B rs place err (size, e0) := by
  refine ⟨⟨?_, ?_⟩, Only.drewN b w q⟩
  · simpa [aft, he, he0, keepE] using h.1.drewN q
  · simp [aft, he, he0, rsX, keepE]

theorem XRd.nil (h : XRd w b v B rs place err) (he : err ≠ 0) : rs = [] := by rw [← h.2]; simp [rsX, he]
theorem XRd.drop (h : XRd w b v B rs place 0) : rs = B.drop place := by rw [← h.2]; simp [rsX]
end

theorem XAft.eta {w w' : World} {b : Nat} {v : Value} {B rs : List UInt8} {place : Nat} {err : Int} {r s : Nat × Int} (h : XAft w w' b v B rs place err r) (e : r = s) : XAft w w' b v B rs place err s := by subst e; exact h

set_option maxHeartbeats 1600000 in
set_option maxRecDepth 1000000 in
theorem xNum_any {w : World} {b : Nat} {v : Value} {B rs : List UInt8} {place : Nat} {err : Int} (h : XRd w b v B rs place err) (hlen : B.length ≤ 140737488355328) (most : Int) :
    Calls Try.prog 62 #[.pointer (some ⟨b, 0, none⟩), .int .i64 most] w fun e w' => e = .returned (.int .i64 (numR rs most 13).1) ∧ XAft w w' b v B rs place err (numR rs most 13).2 := by
  have c1 : w.cell? ⟨b, 1, none⟩ = some (.int .i64 (place : Int)) := by rw [cell_at h.1.box]; rfl
  have c2 : w.cell? ⟨b, 2, none⟩ = some (.int .i64 err) := by rw [cell_at h.1.box]; rfl
  have f1 := free_at h.1.box 1
  have f2 := free_at h.1.box 2
  by_cases he : err = 0
  · subst he
    have hd := h.drop
    subst hd
    have HX := hid h.1
    have hle := h.1.le
    have LB := look_bound 9 127 (by omega) (by omega) (by omega) (B.drop place) 0 0 (by omega) (by simp)
    have e0 := numR_eq (B.drop place) most 13
    have HG := hid (xlook_any h.1 9 127 8 127 (by omega) rfl (by omega) (by omega) (by omega) (by omega) hlen)
    clear h
    generalize look 9 127 0 (B.drop place) 0 = lk at LB e0 HG
    obtain ⟨n, sz, er⟩ := lk
    simp only at LB e0 HG
    obtain ⟨_, hn, hsz, hz, her, _⟩ := LB
    have hn' := hn (by omega)
    have hsz' : sz ≤ (B.drop place).length := by omega
    have hsz2 : sz ≤ B.length - place := by rw [List.length_drop] at hsz'; exact hsz'
    clear hn hsz
    have HE := hid e0
    have HZ := hid hz
    clear e0 hz
    go_enter Try.func62, Try.ntmps62
    go_wp2_with fail
    refine Calls.mono HG.out ?_
    rintro e w1 ⟨rfl, q, rfl⟩
    by_cases hz : er = 0
    · subst hz
      by_cases hm : most < (n : Int)
      · have F : Hid (numR (B.drop place) most 13 = (0, sz, 13)) := by rw [HE.out]; simp [hm, Hid]
        go_wp2
        go_ret
        rw [F.out]
        exact ⟨rfl, HX.out.bad sz q 13 (by omega)⟩
      · have F : Hid (numR (B.drop place) most 13 = ((n : Int), sz, 0)) := by rw [HE.out]; simp [hm, Hid]
        go_wp2
        go_ret
        rw [F.out]
        exact ⟨rfl, HX.out.went sz q hsz' _ rfl⟩
    · have F : Hid (numR (B.drop place) most 13 = (0, sz, (er : Int))) := by rw [HE.out]; simp [hz, Hid]
      have hb : ((er : Int) == 0) = false := by simp; omega
      have hb' : ((er : Int) != 0) = true := by simp; omega
      have hz' : (er : Int) ≠ 0 := by omega
      have HZ' := hid hz'
      clear hz hz'
      go_wp2
      go_ret
      rw [F.out]
      exact ⟨rfl, HX.out.bad sz q er HZ'.out⟩
  · have hb : (err != 0) = true := by simpa using he
    have hn := h.nil he
    subst hn
    have F : Hid (numR [] most 13 = (0, 0, 10)) := by simp [numR, look, Hid]
    have R := hid (h.dead he 0 0 10 (by omega))
    clear h he
    go_enter Try.func62, Try.ntmps62
    go_wp2
    go_ret
    rw [F.out]
    exact ⟨rfl, R.out⟩

end Go.Proofs.Ytagdpfghooogfaa

namespace Go.Proofs.Ytagdpfghooogfaa
open Go.RowKit
set_option linter.unusedVariables false

theorem XRd.kept {w w' : World} {b : Nat} {v : Value} {B rs : List UInt8} {place : Nat} {err : Int} (h : XRd w b v B rs place err) (hb : w'.heap[b]? = w.heap[b]?) (hr : ∀ k, v.ownBlock = some k → w'.heap[k]? = w.heap[k]?) : XRd w' b v B rs place err := ⟨h.1.kept hb hr, h.2⟩

theorem XR.own_lt {w : World} {b : Nat} {v : Value} {B : List UInt8} {place : Nat} {err : Int} (h : XR w b v B place err) : ∀ k, v.ownBlock = some k → k < w.heap.size := fun k hk => (World.ownsRow.lt h.row k hk).2

theorem XRd.below {w w' : World} {b : Nat} {v : Value} {B rs : List UInt8} {place : Nat} {err : Int} (h : XRd w b v B rs place err) (hb : Below w.heap.size w w') : XRd w' b v B rs place err :=
  h.kept (hb.block b h.1.lt) (fun k hk => hb.block k (h.1.own_lt k hk))

theorem XAft.drew {w w' : World} {b : Nat} {v : Value} {B rs : List UInt8} {place : Nat} {err : Int} {r : Nat × Int} (h : XAft w w' b v B rs place err r) : XAft w w'.drew b v B rs place err r := ⟨h.1.kept rfl (fun _ _ => rfl), h.2.trans (Only.drew b w')⟩
theorem XAft.below {w w' w2 : World} {b : Nat} {v : Value} {B rs : List UInt8} {place : Nat} {err : Int} {r : Nat × Int} (h : XAft w w' b v B rs place err r) (hb : Below w'.heap.size w' w2) : XAft w w2 b v B rs place err r := ⟨h.1.below hb, h.2.trans (Only.below hb)⟩

theorem drop_cons {B : List UInt8} {place : Nat} (h : place < B.length) : B.drop place = (B.drop place).getD 0 0 :: B.drop (place + 1) := by
  have e : (B.drop place).getD 0 0 = B[place] := by
    rw [List.getD_eq_getElem?_getD, List.getElem?_drop, Nat.add_zero, List.getElem?_eq_getElem h]
    rfl
  rw [e]
  exact List.drop_eq_getElem_cons h

set_option maxHeartbeats 800000 in
set_option maxRecDepth 1000000 in
theorem xErr_any {w : World} {b : Nat} {v : Value} {B rs : List UInt8} {place : Nat} {err : Int} (h : XRd w b v B rs place err) :
    Calls Try.prog 75 #[.pointer (some ⟨b, 0, none⟩)] w fun e w' => e = .returned (.tuple #[.int .i64 err, .int .i64 (place : Int)]) ∧ ∃ q, w' = w.drewN q := by
  have c1 : w.cell? ⟨b, 1, none⟩ = some (.int .i64 (place : Int)) := by rw [cell_at h.1.box]; rfl
  have c2 : w.cell? ⟨b, 2, none⟩ = some (.int .i64 err) := by rw [cell_at h.1.box]; rfl
  clear h
  go_enter Try.func75, Try.ntmps75
  go_wp2
  go_region
  all_goals go_wp2
  all_goals go_ret2
  all_goals exact ⟨rfl, 1, rfl⟩

/-- What Fail leaves. -/
def failR (rs : List UInt8) (err e0 : Int) : List UInt8 × Int := if err = 0 then (if e0 = 0 then (rs, 0) else ([], e0)) else (rs, err)

set_option maxHeartbeats 1600000 in
set_option maxRecDepth 1000000 in
theorem xClose_any {w : World} {b : Nat} {v : Value} {B rs : List UInt8} {place : Nat} {err : Int} (h : XRd w b v B rs place err) (hlen : B.length ≤ 140737488355328) :
    Calls Try.prog 64 #[.pointer (some ⟨b, 0, none⟩)] w fun e w' => e = .returned (.int .i64 (if rs = [] then err else keepE err 15)) ∧ XRd w' b v B [] place (if rs = [] then err else keepE err 15) ∧ Only b w w' := by
  obtain ⟨ao, c, hf⟩ := h.1.form
  subst hf
  have c0 : w.cell? ⟨b, 0, none⟩ = some (.slice ao B.length c) := by rw [cell_at h.1.box]; rfl
  have c1 : w.cell? ⟨b, 1, none⟩ = some (.int .i64 (place : Int)) := by rw [cell_at h.1.box]; rfl
  have c2 : w.cell? ⟨b, 2, none⟩ = some (.int .i64 err) := by rw [cell_at h.1.box]; rfl
  have f2 := free_at h.1.box 2
  by_cases he : err = 0
  · subst he
    have hd := h.drop
    subst hd
    by_cases hlt : place < B.length
    · have hne : B.drop place ≠ [] := by rw [Ne, List.drop_eq_nil_iff]; omega
      have R : ∀ q, Hid (XRd ((w.drewN q).setCell ⟨b, 2, none⟩ (.int .i64 15)) b (.slice ao B.length c) B [] place 15) := fun q => ⟨(h.1.drewN q).set 2 _ _ _ (by simp) h.1.le, by simp [rsX]⟩
      rw [if_neg hne]
      have hg1 : (place : Int) < (B.length : Int) := by omega
      clear h hne
      go_enter Try.func64, Try.ntmps64
      go_wp2_with fail
      go_quiet (fail)
      go_wp2
      go_ret
      exact ⟨rfl, (R _).out, (Only.drewN b w _).trans (Only.setCell _ _ _)⟩
    · have hne : B.drop place = [] := by rw [List.drop_eq_nil_iff]; omega
      have R : ∀ q, Hid (XRd (w.drewN q) b (.slice ao B.length c) B [] place 0) := fun q => ⟨h.1.drewN q, by simpa [rsX] using hne⟩
      rw [if_pos hne]
      have hg1 : decide ((place : Int) < (B.length : Int)) = false := by simp; omega
      have hg2 : decide (place < B.length) = false := by simp; omega
      clear h hne
      go_enter Try.func64, Try.ntmps64
      go_wp2_with fail
      go_quiet (fail)
      go_wp2
      go_ret
      exact ⟨rfl, (R _).out, Only.drewN b w _⟩
  · have hn := h.nil he
    subst hn
    rw [if_pos rfl]
    have hb : (err == 0) = false := by simpa using he
    have R : ∀ q, Hid (XRd (w.drewN q) b (.slice ao B.length c) B [] place err) := fun q => ⟨h.1.drewN q, h.2⟩
    clear h he
    go_enter Try.func64, Try.ntmps64
    go_wp2_with fail
    go_quiet (fail)
    go_wp2
    go_ret
    exact ⟨rfl, (R _).out, Only.drewN b w _⟩

end Go.Proofs.Ytagdpfghooogfaa

namespace Go.Proofs.Ytagdpfghooogfaa
open Go.RowKit
set_option linter.unusedVariables false

/-- Bytes that came in: an empty list may lie anywhere. -/
def ReadsW (w : World) (s : Value) (l : List UInt8) : Prop := Reads w s l ∨ (l = [] ∧ ∃ a c, s = .slice (some a) 0 c)

end Go.Proofs.Ytagdpfghooogfaa

namespace Go.Proofs.Ytagdpfghooogfaa
open Go.RowKit
set_option linter.unusedVariables false

/-- Append in a region that draws its order, where nothing may be appended too. -/
theorem step_append_own {P : Program} {w : World} {ops : Array Oper} {o : Oper} {a : Act} {K : Act → World → Prop} {Q : Exit → Act → World → Prop} {E : Prop} (hgd : o.guard = none) (s x : Operand) (t : TypeId)
    (ho : o.op = .call { callee := .builtin .append, args := #[s, x], argTypes := #[t, t] })
    (base : Nat) (e : TypeId) (i : TypeInfo) (z : Value) (size bytes : Nat) (ht : P.underlying t = some (.slice e)) (hi : P.info? e = some i) (hz : i.zero = some z)
    (hsize : i.size = size) (hby : i.bytes = bytes) (hzs : z.cells.size = size) (hsz : 0 < size)
    (v : Value) (n : Nat) (xs : List Value) (hs : a.eval s = v) (hown : w.ownsRow base e size v n xs)
    (ad : Addr) (m c : Nat) (news : List Value) (hx : a.eval x = .slice (some ad) m c) (hl : news.length = m * size) (hnews : ∀ j u, news[j]? = some u → w.cell? (ad.add j) = some u) (h1 : ∀ u ∈ news, u.oneCell' = true)
    (h63 : n + m ≤ maxLen) (hbytes : (n + m) * bytes ≤ 140737488355328) (hbase : base ≤ w.heap.size)
    (h : ∀ ao cap w', w'.ownsRow base e size (.slice ao (n + m) cap) (n + m) (xs ++ news) → w.grownBy w' v.ownBlock → K (a.put o.dst (.slice ao (n + m) cap)) w') :
    if Region.wanted o (yielded ops a.tmps) = true then Oper.wp P o a w K Q else E := by
  have hw : Region.wanted o (yielded ops a.tmps) = true := by simp [Region.wanted, hgd]
  rw [if_pos hw]
  obtain ⟨v', w', hr, h2, h3, h4, h5⟩ := run_append_own_at (P := P) w base t o.type e i z size bytes ht hi hz hsize hby hzs hsz v n xs hown ad m c news hl hnews h1 h63 hbytes hbase
  obtain ⟨ao, cap, hv⟩ := owns_form h2
  subst hv
  unfold Oper.wp execOp
  simp only [ho, resolve, invoke, builtin, Sem.run_bind, Sem.run_pure, Result.andThen_ok, List.map_toArray, List.map_cons, List.map_nil, hs, hx, hr]
  exact h ao cap w' h2 h3

/-- A new reader's block. -/
theorem XRd.made {w0 w : World} {v : Value} {l : List UInt8} (hb : Below w0.heap.size w0 w) (ho : w.ownsRow w0.heap.size 5 1 v l.length (cellsB l)) :
    XRd (w.alloc (.cells #[v, .int .i64 0, .int .i64 0] 122)) w.heap.size v l l 0 0 ∧ Below w0.heap.size w0 (w.alloc (.cells #[v, .int .i64 0, .int .i64 0] 122)) ∧ w0.heap.size ≤ w.heap.size ∧ ∀ k, v.ownBlock = some k → w0.heap.size ≤ k := by
  refine ⟨⟨⟨heap_alloc_new _ _, owns_zero (World.ownsRow.alloc ho _), fun e => ?_, Nat.zero_le _⟩, by simp [rsX]⟩, hb.alloc hb.size _, hb.size, fun k hk => (World.ownsRow.lt ho k hk).1⟩
  have := (World.ownsRow.lt ho _ e).2
  omega

set_option maxHeartbeats 800000 in
set_option maxRecDepth 1000000 in
theorem xnewr_some {w : World} (ad : Addr) (c : Nat) (l : List UInt8) (hc : ∀ j u, (cellsB l)[j]? = some u → (w.alloc (.cells #[] 5)).cell? (ad.add j) = some u) (hlen : l.length ≤ 140737488355328) :
    Calls Try.prog 61 #[.slice (some ad) l.length c] w fun e w' => ∃ b v, e = .returned (.pointer (some ⟨b, 0, none⟩)) ∧ XRd w' b v l l 0 0 ∧ Below w.heap.size w w' ∧ w.heap.size ≤ b ∧ ∀ k, v.ownBlock = some k → w.heap.size ≤ k := by
  obtain ⟨i0, hi, hz0, hz1, hz2⟩ := info_parts Try.info5
  have h0 : (w.alloc (.cells #[] 5)).ownsRow w.heap.size 5 1 (.slice (some ⟨w.heap.size, 0, none⟩) 0 0) 0 [] := World.ownsRow_made w #[] 0 (Nat.le_refl _) (by unfold maxLen; omega) rfl
  go_enter Try.func61, Try.ntmps61
  go_wp2_with (at_builtin; refine wpList_append_own_at _ rfl (.tmp 3) (.tmp 4) 40 rfl w.heap.size 5 i0 (.int .u8 0) 1 1 Try.underlying40 hi hz0 hz1 hz2 rfl (by decide) _ _ _ rfl h0 ad l.length c (cellsB l) rfl (by rw [cellsB_length]; omega) hc (cellsB_one _) (by unfold maxLen; omega) (by omega) (by simp) ?_)
  intro v' w1 hown hgr hnil hat
  have hB : Below w.heap.size w w1 := by
    refine ((Below.refl _ _).alloc (Nat.le_refl _) _).grown hgr (by simp) (fun k hk => ?_)
    simp [Value.ownBlock] at hk
    omega
  have ho : w1.ownsRow w.heap.size 5 1 v' l.length (cellsB l) := by simpa using hown
  have R := hid (XRd.made hB ho)
  obtain ⟨ao', cap', eo⟩ := owns_form ho
  subst eo
  clear hown hgr hnil hat h0 hB ho hc
  go_wp2
  go_ret
  exact ⟨_, _, rfl, R.out⟩

set_option maxHeartbeats 800000 in
set_option maxRecDepth 1000000 in
theorem xnewr_none {w : World} :
    Calls Try.prog 61 #[.slice none 0 0] w fun e w' => ∃ b v, e = .returned (.pointer (some ⟨b, 0, none⟩)) ∧ XRd w' b v [] [] 0 0 ∧ Below w.heap.size w w' ∧ w.heap.size ≤ b ∧ ∀ k, v.ownBlock = some k → w.heap.size ≤ k := by
  obtain ⟨i0, hi, hz0, hz1, hz2⟩ := info_parts Try.info5
  have h0 : (w.alloc (.cells #[] 5)).ownsRow w.heap.size 5 1 (.slice (some ⟨w.heap.size, 0, none⟩) 0 0) 0 [] := World.ownsRow_made w #[] 0 (Nat.le_refl _) (by unfold maxLen; omega) rfl
  have R := hid (XRd.made (l := []) ((Below.refl _ _).alloc (Nat.le_refl _) (.cells #[] 5)) h0)
  go_enter Try.func61, Try.ntmps61
  go_wp2_with (at_builtin; refine wpList_append_own_none rfl (.tmp 3) (.tmp 4) 40 rfl w.heap.size 5 i0 1 Try.underlying40 hi _ _ _ rfl h0 rfl ?_)
  go_ret
  have r := R.out
  rw [World.size_alloc] at r
  exact ⟨_, _, rfl, r⟩

theorem xnewr_any {w : World} {s : Value} {l : List UInt8} (h : ReadsW w s l) (hlen : l.length ≤ 140737488355328) :
    Calls Try.prog 61 #[s] w fun e w' => ∃ b v, e = .returned (.pointer (some ⟨b, 0, none⟩)) ∧ XRd w' b v l l 0 0 ∧ Below w.heap.size w w' ∧ w.heap.size ≤ b ∧ ∀ k, v.ownBlock = some k → w.heap.size ≤ k := by
  rcases h with ⟨ao, c, rfl, _, ⟨rfl, rfl, rfl⟩ | ⟨g, o, rfl, hg, hc⟩⟩ | ⟨rfl, a, c, rfl⟩
  · exact xnewr_none
  · refine xnewr_some ⟨g, o, none⟩ c l (fun j u hu => ?_) hlen
    rw [Addr.add_lit, World.cell?_alloc_past _ _ _ hg]
    exact hc j u hu
  · exact xnewr_some a c [] (fun j u hu => by simp [cellsB] at hu) hlen

end Go.Proofs.Ytagdpfghooogfaa

namespace Go.Proofs.Ytagdpfghooogfaa
open Go.RowKit
set_option linter.unusedVariables false

/-- A list that is none. -/
theorem owns_none (w : World) (base : Nat) : w.ownsRow base 5 1 (.slice none 0 0) 0 (cellsB []) := ⟨rfl, Or.inl ⟨rfl, rfl⟩⟩

theorem runR_look (rs : List UInt8) (most : Int) (n sz er : Nat) (h : look 9 127 0 rs 0 = (n, sz, er)) :
    runR rs most = if er = 0 then (if most < (n : Int) then ([], sz, 14) else if rs.length - sz < n then ([], sz, 10) else ((rs.drop sz).take n, sz + n, 0)) else ([], sz, (er : Int)) := by
  rw [runR_eq, numR_eq, h]
  by_cases he : er = 0
  · subst he
    by_cases hm : most < (n : Int)
    · simp [hm]
    · by_cases hl : rs.length - sz < n
      · simp [hm, hl]
      · simp [hm, hl]
  · simp [he]

/-- The bytes of an item. -/
theorem XR.bytes {w : World} {b g c n : Nat} {B : List UInt8} {at_ : Nat} {e : Int} (h : XR w b (.slice (some ⟨g, 0, none⟩) n c) B at_ e) (f m : Nat) (hm : f + m ≤ B.length) :
    ∀ j u, (cellsB ((B.drop f).take m))[j]? = some u → w.cell? ((⟨g, f, none⟩ : Addr).add j) = some u := by
  intro j u hu
  have hc := World.ownsRow.cells h.row (g := g) rfl (f + j) u
  rw [Addr.add_lit]
  have : (⟨g, f + j, none⟩ : Addr) = (⟨g, 0, none⟩ : Addr).add (f + j) := by rw [Addr.add_lit, Nat.zero_add]
  rw [this]
  refine hc ?_
  rw [cellsB, List.getElem?_map, Option.map_eq_some_iff] at hu
  obtain ⟨x, hx, rfl⟩ := hu
  rw [List.getElem?_take] at hx
  split at hx
  · rw [List.getElem?_drop] at hx
    simp [cellsB, hx]
  · cases hx

theorem xbytes_fin {w w5 w' : World} {b : Nat} {v : Value} {B rs l : List UInt8} {place n cap' : Nat} {ao' : Option Addr} {r : Nat × Int} (R : XAft w w5 b v B rs place 0 r) (hs5 : w5.heap.size = w.heap.size) (ho : w'.ownsRow w.heap.size 5 1 (.slice ao' (0 + n) cap') (0 + n) ([] ++ cellsB l)) (hg : (w5.alloc (.cells #[] 5)).drew.grownBy w' (Value.slice (some ⟨w.heap.size, 0, none⟩) 0 0).ownBlock) : w'.ownsRow w.heap.size 5 1 (.slice ao' n cap') n (cellsB l) ∧ XAft w w' b v B rs place 0 r := by
  rw [Nat.zero_add, List.nil_append] at ho
  refine ⟨ho, R.below ?_⟩
  have h0 : Below w5.heap.size w5 (w5.alloc (.cells #[] 5)).drew := by
    have h : Below w5.heap.size w5 (w5.alloc (.cells #[] 5)) := (Below.refl _ _).alloc (Nat.le_refl _) _
    exact ⟨h.os, h.tape, h.output, h.size, h.block⟩
  refine h0.grown hg (by simp) (fun k hk => ?_)
  simp [Value.ownBlock] at hk
  omega

theorem cut2_run (g t n c len : Nat) (l h : Int) (hl : l = (t : Int)) (hh : h = (t : Int) + (n : Int)) (hc : t + n ≤ c) (hne : c ≠ t) (w : World) : (Instr.slice 40 (.slice (some ⟨g, 0, none⟩) len c) (some (.int .i64 l)) (some (.int .i64 h)) none).run Try.prog w = .ok (.slice (some ⟨g, t, none⟩) n (c - t)) w := by
  rw [run_slice_lh w 40 (some ⟨g, 0, none⟩) len c (by kernel_rfl) .i64 .i64 l h (by omega) (by omega) (by omega)]
  have hs : (sizeOf (Try.prog.elem 40)).run Try.prog w = .ok 1 w := by kernel_rfl
  have e1 : l.toNat = t := by omega
  have e2 : h.toNat = t + n := by omega
  rw [hs, e1, e2]
  simp [sliced, Result.andThen, Addr.add_lit, hne]

theorem cut2_run_end (g t n c len : Nat) (l h : Int) (hl : l = (t : Int)) (hh : h = (t : Int) + (n : Int)) (hc : t + n ≤ c) (he : c = t) (w : World) : (Instr.slice 40 (.slice (some ⟨g, 0, none⟩) len c) (some (.int .i64 l)) (some (.int .i64 h)) none).run Try.prog w = .ok (.slice (some ⟨g, 0, none⟩) n (c - t)) w := by
  rw [run_slice_lh w 40 (some ⟨g, 0, none⟩) len c (by kernel_rfl) .i64 .i64 l h (by omega) (by omega) (by omega)]
  have hs : (sizeOf (Try.prog.elem 40)).run Try.prog w = .ok 1 w := by kernel_rfl
  have e1 : l.toNat = t := by omega
  have e2 : h.toNat = t + n := by omega
  rw [hs, e1, e2]
  simp [sliced, Result.andThen, he]

set_option maxHeartbeats 1600000 in
set_option maxRecDepth 1000000 in
theorem xBytes_any {w : World} {b : Nat} {v : Value} {B rs : List UInt8} {place : Nat} {err : Int} (h : XRd w b v B rs place err) (hlen : B.length ≤ 140737488355328) (most : Int) :
    Calls Try.prog 80 #[.pointer (some ⟨b, 0, none⟩), .int .i64 most] w fun e w' => ∃ s, e = .returned s ∧ w'.ownsRow w.heap.size 5 1 s (runR rs most).1.length (cellsB (runR rs most).1) ∧ XAft w w' b v B rs place err (runR rs most).2 := by
  obtain ⟨ao, c, hf⟩ := h.1.form
  subst hf
  have c0 : w.cell? ⟨b, 0, none⟩ = some (.slice ao B.length c) := by rw [cell_at h.1.box]; rfl
  have c1 : w.cell? ⟨b, 1, none⟩ = some (.int .i64 (place : Int)) := by rw [cell_at h.1.box]; rfl
  have c2 : w.cell? ⟨b, 2, none⟩ = some (.int .i64 err) := by rw [cell_at h.1.box]; rfl
  have f1 := free_at h.1.box 1
  have f2 := free_at h.1.box 2
  by_cases he : err = 0
  · subst he
    have hd := h.drop
    subst hd
    have HX := hid h.1
    have hle := h.1.le
    have LB := look_bound 9 127 (by omega) (by omega) (by omega) (B.drop place) 0 0 (by omega) (by simp)
    have e0 := runR_look (B.drop place) most
    have HG := hid (xlook_any h.1 9 127 8 127 (by omega) rfl (by omega) (by omega) (by omega) (by omega) hlen)
    clear h
    generalize look 9 127 0 (B.drop place) 0 = lk at LB e0 HG
    obtain ⟨n, sz, er⟩ := lk
    replace e0 := e0 n sz er rfl
    simp only at LB HG
    obtain ⟨_, hn, hsz, hz, her, _⟩ := LB
    have hn' := hn (by omega)
    have hsz' : sz ≤ (B.drop place).length := by omega
    have hsz2 : sz ≤ B.length - place := by rw [List.length_drop] at hsz'; exact hsz'
    rw [List.length_drop] at e0
    clear hn hsz
    have HE := hid e0
    have HZ := hid hz
    clear e0 hz
    go_enter Try.func80, Try.ntmps80
    go_wp2_with fail
    refine Calls.mono HG.out ?_
    rintro e w1 ⟨rfl, q, rfl⟩
    have k1 : (B.length : Int) - (place : Int) = ((B.length - place : Nat) : Int) := by omega
    by_cases hz : er = 0
    · subst hz
      by_cases hm : most < (n : Int)
      · have F : Hid (runR (B.drop place) most = ([], sz, 14)) := by rw [HE.out]; simp [hm, Hid]
        clear k1
        go_wp2
        go_region
        go_wp2
        go_ret
        rw [F.out]
        exact ⟨_, rfl, owns_none _ _, HX.out.bad sz (q + 1) 14 (by omega)⟩
      · by_cases hl : B.length - place - sz < n
        · have F : Hid (runR (B.drop place) most = ([], sz, 10)) := by rw [HE.out]; simp [hm, hl, Hid]
          have hl2 : (B.length : Int) - (place : Int) - (sz : Int) < (n : Int) := by omega
          clear k1 hl
          go_wp2
          go_region
          go_wp2
          go_ret
          rw [F.out]
          exact ⟨_, rfl, owns_none _ _, HX.out.bad sz (q + 1) 10 (by omega)⟩
        · have F : Hid (runR (B.drop place) most = (((B.drop place).drop sz).take n, sz + n, 0)) := by rw [HE.out]; simp [hm, hl, Hid]
          have hl2 : ¬ ((B.length : Int) - (place : Int) - (sz : Int) < (n : Int)) := by omega
          have R : Hid (XAft w ((w.drewN (q + 1)).setCell ⟨b, 1, none⟩ (.int .i64 ((place : Int) + (sz : Int) + (n : Int)))) b (.slice ao B.length c) B (B.drop place) place 0 (sz + n, 0)) := HX.out.went (sz + n) (q + 1) (by rw [List.length_drop]; omega) _ (by omega)
          obtain ⟨g, rfl⟩ : ∃ g, ao = some ⟨g, 0, none⟩ := by
            have hs0 : 0 < sz := by omega
            rcases HX.out.row.2 with ⟨e, e0⟩ | ⟨g, cap, _, ev, _⟩
            · omega
            · simp only [Value.slice.injEq] at ev
              exact ⟨g, ev.1⟩
          have hcap : B.length ≤ c := by
            rcases HX.out.row.2 with ⟨e, e0⟩ | ⟨g, cap, _, ev, _, _, hh, _⟩
            · omega
            · simp only [Value.slice.injEq] at ev
              omega
          obtain ⟨i0, hi, hz0, hz1, hz2⟩ := info_parts Try.info5
          clear k1 hl
          go_wp2
          go_region
          go_wp2_with fail
          have hs5 : ((w.drewN (q + 1)).setCell ⟨b, 1, none⟩ (.int .i64 ((place : Int) + (sz : Int) + (n : Int)))).heap.size = w.heap.size := by simp [World.setCell]
          have e5 : ((w.drewN q).drew.setCell ⟨b, 1, none⟩ (.int .i64 ((place : Int) + (sz : Int) + (n : Int)))) = ((w.drewN (q + 1)).setCell ⟨b, 1, none⟩ (.int .i64 ((place : Int) + (sz : Int) + (n : Int)))) := rfl
          first | rw [e5] | skip
          generalize ((w.drewN (q + 1)).setCell ⟨b, 1, none⟩ (.int .i64 ((place : Int) + (sz : Int) + (n : Int)))) = w5 at *
          have hbl : b < w5.heap.size := R.out.1.1.lt
          have k0 : w5.cell? ⟨b, 0, none⟩ = some (.slice (some ⟨g, 0, none⟩) B.length c) := by rw [cell_at R.out.1.1.box]; rfl
          have k1 : w5.cell? ⟨b, 1, none⟩ = some (.int .i64 ((place : Int) + (sz : Int) + (n : Int))) := by rw [cell_at R.out.1.1.box]; simp [aft]; omega
          have h0 : (w5.alloc (.cells #[] 5)).drew.ownsRow w.heap.size 5 1 (.slice (some ⟨w.heap.size, 0, none⟩) 0 0) 0 [] := by
            rw [← hs5]
            exact World.ownsRow_made w5 #[] 0 (Nat.le_refl _) (by unfold maxLen; omega) rfl
          have HN : Hid (∀ j u, (cellsB ((B.drop (place + sz)).take n))[j]? = some u → (w5.alloc (.cells #[] 5)).drew.cell? ((⟨g, place + sz, none⟩ : Addr).add j) = some u) := by
            intro j u hu
            have := R.out.1.1.bytes (place + sz) n (by omega) j u hu
            have hg : g < w5.heap.size := R.out.1.1.own_lt g rfl
            show (w5.alloc (.cells #[] 5)).cell? _ = _
            rw [Addr.add_lit] at this ⊢
            rw [World.cell?_alloc_past _ _ _ hg]
            exact this
          clear HX HG HZ HE c0 c1 c2 f1 f2
          have j0 : (w5.alloc (.cells #[] 5)).cell? ⟨b, 0, none⟩ = some (.slice (some ⟨g, 0, none⟩) B.length c) := by rw [World.cell?_alloc_past _ _ _ hbl]; exact k0
          have j1 : (w5.alloc (.cells #[] 5)).cell? ⟨b, 1, none⟩ = some (.int .i64 ((place : Int) + (sz : Int) + (n : Int))) := by rw [World.cell?_alloc_past _ _ _ hbl]; exact k1
          have hcs : place + sz ≤ c := by omega
          have hcn : place + sz + n ≤ c := by omega
          have hmn : place + sz + n ≤ 140737488355328 := by omega
          have hpn : place + sz + n ≤ B.length := by omega
          clear hm hl2 hsz' hsz2 hlen hcap hle her hn'
          obtain ⟨o, hsl, HN2⟩ : ∃ o, (∀ w, (Instr.slice 40 (.slice (some ⟨g, 0, none⟩) B.length c) (some (.int .i64 ((place : Int) + (sz : Int)))) (some (.int .i64 ((place : Int) + (sz : Int) + (n : Int)))) none).run Try.prog w = .ok (.slice (some ⟨g, o, none⟩) n (c - (place + sz))) w) ∧ Hid (∀ j u, (cellsB ((B.drop (place + sz)).take n))[j]? = some u → (w5.alloc (.cells #[] 5)).drew.cell? ((⟨g, o, none⟩ : Addr).add j) = some u) := by
            by_cases hcc : c = place + sz
            · have hn0 : n = 0 := by omega
              subst hn0
              refine ⟨0, fun w => ?_, fun j u hu => by simp [cellsB] at hu⟩
              exact cut2_run_end g (place + sz) 0 c B.length _ _ (by omega) (by omega) (by omega) hcc w
            · exact ⟨place + sz, fun w => cut2_run g (place + sz) n c B.length _ _ (by omega) (by omega) (by omega) hcc w, HN.out⟩
          clear HN
          have HL : Hid ((((B.drop place).drop sz).take n).length = n) := by rw [List.length_take, List.length_drop, List.length_drop, Nat.min_eq_left (by omega)]; exact hid rfl
          have HD : Hid (B.drop (place + sz) = (B.drop place).drop sz) := by rw [List.drop_drop]; exact hid rfl
          rw [HD.out] at HN2
          clear HD
          generalize ((B.drop place).drop sz).take n = l at *
          clear e5
          go_region_law (refine step_append_own (by rfl) (.tmp 68) (.tmp 78) 40 (by rfl) w.heap.size 5 i0 (.int .u8 0) 1 1 Try.underlying40 hi hz0 hz1 hz2 rfl (by decide) _ 0 [] (by rfl) h0 ⟨g, o, none⟩ n (c - (place + sz)) (cellsB l) (by rfl) (by rw [cellsB_length, HL.out]; omega) HN2.out (cellsB_one _) (by unfold maxLen; omega) (by omega) (by simp; omega) ?_; intro ao' cap' w' ho hg'; have RR := hid (xbytes_fin R.out hs5 ho hg'); clear ho hg')
          all_goals go_wp2
          all_goals go_ret
          all_goals exact ⟨_, rfl, by rw [F.out, HL.out]; exact RR.out.1, by rw [F.out]; exact RR.out.2⟩
    · have F : Hid (runR (B.drop place) most = ([], sz, (er : Int))) := by rw [HE.out]; simp [hz, Hid]
      have hb : ((er : Int) == 0) = false := by simp; omega
      have hb' : ((er : Int) != 0) = true := by simp; omega
      have hz' : (er : Int) ≠ 0 := by omega
      have HZ' := hid hz'
      clear hz hz' k1
      go_wp2
      go_region
      go_wp2
      go_ret
      rw [F.out]
      exact ⟨_, rfl, owns_none _ _, HX.out.bad sz (q + 1) er HZ'.out⟩
  · have hb : (err != 0) = true := by simpa using he
    have hn := h.nil he
    subst hn
    have F : Hid (runR [] most = ([], 0, 10)) := by simp [runR, numR, look, Hid]
    have R := hid (h.dead he 0 0 10 (by omega))
    clear h he
    go_enter Try.func80, Try.ntmps80
    go_wp2
    go_ret
    rw [F.out]
    exact ⟨_, rfl, owns_none _ _, R.out⟩

set_option maxHeartbeats 800000 in
set_option maxRecDepth 1000000 in
theorem xText_any {w : World} {b : Nat} {v : Value} {B rs : List UInt8} {place : Nat} {err : Int} (h : XRd w b v B rs place err) (hlen : B.length ≤ 140737488355328) (most : Int) :
    Calls Try.prog 74 #[.pointer (some ⟨b, 0, none⟩), .int .i64 most] w fun e w' => e = .returned (.string (strB (runR rs most).1)) ∧ XAft w w' b v B rs place err (runR rs most).2 := by
  have HC := hid (xBytes_any h hlen most)
  clear h
  go_enter Try.func74, Try.ntmps74
  go_wp2_with fail
  refine Calls.mono HC.out ?_
  rintro e w' ⟨s, rfl, h1, h2⟩
  have hcv := conv_string (Reads.of_owns h1)
  obtain ⟨ao, c, hf⟩ := owns_form h1
  subst hf
  have H2 := hid h2
  clear h1 h2 HC
  go_wp2
  go_ret
  exact ⟨rfl, H2.out⟩

end Go.Proofs.Ytagdpfghooogfaa

namespace Go.Proofs.Ytagdpfghooogfaa
open Go.RowKit
set_option linter.unusedVariables false

/-- The document's reader, as a part. -/
def xrC (b : Nat) (v : Value) (B : List UInt8) (r : Rst) : Comp := ⟨fun w => XRd w b v B r.rs r.place r.err, b :: v.ownBlock.toList⟩
theorem xrC_good (b : Nat) (v : Value) (B : List UInt8) (r : Rst) : (xrC b v B r).Good := fun w w' h _ hk =>
  XRd.kept h (hk b (by simp [xrC])) (fun k hk' => hk k (by simp [xrC, hk']))
theorem All.xrstep {b : Nat} {v : Value} {B : List UInt8} {r r' : Rst} {cs : List Comp} {w w' : World} (h : All (xrC b v B r :: cs) w) (h1 : XRd w' b v B r'.rs r'.place r'.err) (h2 : Only b w w') : All (xrC b v B r' :: cs) w' := by
  refine h.turn ⟨h2.os, h2.tape, h2.output, h2.size, fun k hk hn => ?_⟩ (xrC_good _ _ _ _) h1 (fun k hk => Or.inl hk) (fun k hk => ?_)
  · simp [xrC] at hn
    exact h2.block k hk hn.1
  · simp [xrC] at hk
    rcases hk with rfl | hk
    · exact h1.1.lt
    · exact h1.1.own_lt k hk

theorem xnewRd {s : Value} {l : List UInt8} {cs : List Comp} {w : World} (h : All cs w) (hr : Reads w s l) (hlen : l.length ≤ 140737488355328) : Calls Try.prog 61 #[s] w fun e w' => ∃ b v, e = .returned (.pointer (some ⟨b, 0, none⟩)) ∧ All (xrC b v l ⟨l, 0, 0⟩ :: cs) w' :=
  (xnewr_any (.inl hr) hlen).mono fun e w' ⟨b, v, h1, h2, h3, h4, h5⟩ => ⟨b, v, h1, h.add (Fr.below h3) (xrC_good _ _ _ _) h2 (fun k hk => by
    simp only [xrC, List.mem_cons, Option.mem_toList] at hk
    rcases hk with rfl | hk
    · exact ⟨h4, h2.1.lt⟩
    · exact ⟨h5 k hk, h2.1.own_lt k hk⟩)⟩
theorem xnumRd {b : Nat} {v : Value} {B : List UInt8} {r : Rst} {cs : List Comp} {w : World} (h : All (xrC b v B r :: cs) w) (hp : B.length ≤ 140737488355328) (most : Int) : Calls Try.prog 62 #[.pointer (some ⟨b, 0, none⟩), .int .i64 most] w fun e w' => e = .returned (.int .i64 (r.numV most)) ∧ All (xrC b v B (r.num most) :: cs) w' :=
  (xNum_any h.1.2.1 hp most).mono fun e w' ⟨h1, h2, h3⟩ => ⟨h1, h.xrstep h2 h3⟩
theorem xtextRd {b : Nat} {v : Value} {B : List UInt8} {r : Rst} {cs : List Comp} {w : World} (h : All (xrC b v B r :: cs) w) (hp : B.length ≤ 140737488355328) (most : Int) : Calls Try.prog 74 #[.pointer (some ⟨b, 0, none⟩), .int .i64 most] w fun e w' => e = .returned (.string (r.txtV most)) ∧ All (xrC b v B (r.txt most) :: cs) w' :=
  (xText_any h.1.2.1 hp most).mono fun e w' ⟨h1, h2, h3⟩ => ⟨h1, h.xrstep h2 h3⟩
theorem xerrRd {b : Nat} {v : Value} {B : List UInt8} {r : Rst} {cs : List Comp} {w : World} (h : All (xrC b v B r :: cs) w) : Calls Try.prog 75 #[.pointer (some ⟨b, 0, none⟩)] w fun e w' => e = .returned (.tuple #[.int .i64 r.err, .int .i64 (r.place : Int)]) ∧ All (xrC b v B r :: cs) w' :=
  (xErr_any h.1.2.1).mono fun e w' ⟨h1, q, h2⟩ => ⟨h1, by rw [h2]; exact h.drewN q⟩
theorem xcloseRd {b : Nat} {v : Value} {B : List UInt8} {r : Rst} {cs : List Comp} {w : World} (h : All (xrC b v B r :: cs) w) (hp : B.length ≤ 140737488355328) : Calls Try.prog 64 #[.pointer (some ⟨b, 0, none⟩)] w fun e w' => e = .returned (.int .i64 r.close) ∧ All (xrC b v B ⟨[], r.place, r.close⟩ :: cs) w' :=
  (xClose_any h.1.2.1 hp).mono fun e w' ⟨h1, h2, h3⟩ => ⟨h1, h.xrstep h2 h3⟩

theorem res63 {tmps : Array Value} {w : World} {b : Nat} {c k : Int} {s : Value} (ht : tmps.getD 2 undef = .pointer (some ⟨b, 0, none⟩)) (h : w.heap[b]? = some (.cells #[.int .i64 c, .int .i64 k, s] 37 (0, 0))) : (results Try.f63 tmps).run Try.prog w = .ok (resV c k s) w := by
  have hp' : tmps[2]?.getD undef = .pointer (some ⟨b, 0, none⟩) := by simpa using ht
  have hres : Try.f63.results = #[.cell 2 37] := rfl
  have x0 : w.cell? ⟨b, 0, none⟩ = some (.int .i64 c) := by rw [cell_at h]; rfl
  have x1 : w.cell? ⟨b, 1, none⟩ = some (.int .i64 k) := by rw [cell_at h]; rfl
  have x2 : w.cell? ⟨b, 2, none⟩ = some s := by rw [cell_at h]; rfl
  simp only [results, hres]
  go_simp
/-- Four parts, turned: own, x, result, reader to reader, result, x, own, and back. -/
theorem rot4' (a b c d : Comp) (cs : List Comp) : List.Perm (a :: b :: c :: d :: cs) (d :: c :: b :: a :: cs) := by
  have h : List.Perm [a, b, c, d] [d, c, b, a] := (List.reverse_perm [d, c, b, a])
  exact h.append_right cs
theorem rot4b (a b c d : Comp) (cs : List Comp) : List.Perm (a :: b :: c :: d :: cs) (d :: c :: b :: a :: cs) := rot4' a b c d cs

set_option maxHeartbeats 3200000 in
set_option maxRecDepth 1000000 in
theorem xgetResult_any {b : Nat} {v : Value} {B : List UInt8} {r : Rst} {cs : List Comp} {w : World} (h : All (xrC b v B r :: cs) w) (hp : B.length ≤ 140737488355328) :
    Calls Try.prog 63 #[.pointer (some ⟨b, 0, none⟩)] w fun e w' => ∃ so sc, e = .returned (resV r.resV.c r.resV.k (.slice so r.resV.l.length sc)) ∧ All (ownC 9 (.slice so r.resV.l.length sc) (cellsT r.resV.l) :: xrC b v B r.res :: cs) w' := by
  have HH := hid h
  clear h
  obtain ⟨i0, hi, hz0, hz1, hz2⟩ := info_parts Try.info9
  have A0 := hid (((HH.out.addBlk [.int .i64 0, .int .i64 0, .slice none 0 0] 37).addBlk [.int .i64 0, .int .i64 0, .slice none 0 0] 37).rev3)
  simp only [World.size_alloc] at A0
  clear HH
  go_enter Try.func63, Try.ntmps63
  go_wp2_with fail
  refine (xnumRd A0.out hp 4).mono ?_
  rintro e w1 ⟨rfl, A1⟩
  obtain ⟨c, hc⟩ : ∃ c, Hid (c = r.numV 4) := ⟨_, hid rfl⟩
  rw [← hc.out]
  have A1 := hid A1
  have erx : w1.heap[w.heap.size + 1]? = some (.cells #[.int .i64 0, .int .i64 0, .slice none 0 0] 37 (0, 0)) := A1.out.blk (vs := [.int .i64 0, .int .i64 0, .slice none 0 0]) (by simp)
  have x0 : w1.cell? ⟨w.heap.size + 1, 0, none⟩ = some (.int .i64 0) := by rw [cell_at erx]; rfl
  have x1 : w1.cell? ⟨w.heap.size + 1, 1, none⟩ = some (.int .i64 0) := by rw [cell_at erx]; rfl
  have x2 : w1.cell? ⟨w.heap.size + 1, 2, none⟩ = some (.slice none 0 0) := by rw [cell_at erx]; rfl
  have fx0 : w1.frozen? ⟨w.heap.size + 1, 0, none⟩ = false := free_at erx 0
  have fx1 : w1.frozen? ⟨w.heap.size + 1, 1, none⟩ = false := free_at erx 1
  have fx2 : w1.frozen? ⟨w.heap.size + 1, 2, none⟩ = false := free_at erx 2
  clear erx
  have A2 := hid (A1.out.rev3.setBlk 0 (.int .i64 c)).rev3
  clear A0 A1
  by_cases h0 : c = 0
  · have F : Hid (r.res0 = (⟨0, (r.num 4).numV 1099511627776, (((r.num 4).num 1099511627776).num 8 |>.items (((r.num 4).num 1099511627776).numV 8).toNat).1⟩, (((r.num 4).num 1099511627776).num 8 |>.items (((r.num 4).num 1099511627776).numV 8).toNat).2)) := hid (by rw [Rst.res0, if_pos (by rw [← hc.out]; exact h0)])
    subst h0
    go_wp2_with fail
    refine (xnumRd A2.out hp 1099511627776).mono ?_
    rintro e w2 ⟨rfl, A3⟩
    obtain ⟨kk, hkk⟩ : ∃ kk, Hid (kk = (r.num 4).numV 1099511627776) := ⟨_, hid rfl⟩
    obtain ⟨q2, hq2⟩ : ∃ q2, Hid (q2 = (r.num 4).num 1099511627776) := ⟨_, hid rfl⟩
    rw [← hkk.out, ← hq2.out] at F
    rw [← hq2.out] at A3
    rw [← hkk.out]
    have A3 := hid A3
    clear A2 x0 x1 x2 fx0 fx1 fx2
    have erx : w2.heap[w.heap.size + 1]? = some (.cells #[.int .i64 0, .int .i64 0, .slice none 0 0] 37 (0, 0)) := A3.out.blk (vs := [.int .i64 0, .int .i64 0, .slice none 0 0]) (by simp)
    have x0 : w2.cell? ⟨w.heap.size + 1, 0, none⟩ = some (.int .i64 0) := by rw [cell_at erx]; rfl
    have x1 : w2.cell? ⟨w.heap.size + 1, 1, none⟩ = some (.int .i64 0) := by rw [cell_at erx]; rfl
    have x2 : w2.cell? ⟨w.heap.size + 1, 2, none⟩ = some (.slice none 0 0) := by rw [cell_at erx]; rfl
    have fx0 : w2.frozen? ⟨w.heap.size + 1, 0, none⟩ = false := free_at erx 0
    have fx1 : w2.frozen? ⟨w.heap.size + 1, 1, none⟩ = false := free_at erx 1
    have fx2 : w2.frozen? ⟨w.heap.size + 1, 2, none⟩ = false := free_at erx 2
    clear erx
    have A4 := hid (A3.out.rev3.setBlk 1 (.int .i64 kk)).rev3
    clear A3
    go_wp2_with fail
    refine (xnumRd A4.out hp 8).mono ?_
    obtain ⟨N, hN⟩ : ∃ N : Nat, Hid (q2.numV 8 = (N : Int) ∧ N ≤ 8) := ⟨(q2.numV 8).toNat, hid (by
      have h1 := numR_val q2.rs 8 13
      have h2 := numR_le q2.rs 8 13 (by omega)
      unfold Rst.numV
      omega)⟩
    have eN : (q2.numV 8).toNat = N := by rw [hN.out.1]; simp
    obtain ⟨q8, hq8⟩ : ∃ q8, Hid (q8 = q2.num 8) := ⟨_, hid rfl⟩
    rw [eN, ← hq8.out] at F
    rw [hN.out.1, ← hq8.out]
    rintro e w3 ⟨rfl, A5⟩
    have A5 := hid (A5.rev3)
    have hN8 := hN.out.2
    clear A4 eN x0 x1 x2 fx0 fx1 fx2
    go_wp2
    go_loopw [5] (fun iv wr => ∃ (k : Nat) (so : Option Addr) (sc : Nat), iv = .int .i64 (k : Int) ∧ k ≤ N ∧ Hid (All (ownC 9 (.slice so k sc) (cellsT (q8.items k).1) :: blkC (w.heap.size + 1) [.int .i64 0, .int .i64 kk, .slice so k sc] 37 :: blkC w.heap.size [.int .i64 0, .int .i64 0, .slice none 0 0] 37 :: xrC b v B (q8.items k).2 :: cs) wr)) (fun iv _ => N - (intOf iv).toNat)
    case atStart => exact ⟨0, none, 0, rfl, Nat.zero_le _, hid A5.out.addNil⟩
    case round =>
      obtain ⟨k, so, sc, rfl, hk, AR⟩ := hrel
      clear A5
      by_cases hlt : k < N
      case neg =>
        obtain rfl : k = N := by omega
        obtain ⟨LL, hLL⟩ : ∃ LL, Hid (LL = (q8.items k).1) := ⟨_, hid rfl⟩
        obtain ⟨q9, hq9⟩ : ∃ q9, Hid (q9 = (q8.items k).2) := ⟨_, hid rfl⟩
        have hnl : Hid (k = LL.length) := hid (by rw [hLL.out, items_len])
        rw [← hLL.out, ← hq9.out] at F AR
        have A6 := hid (AR.out.perm (rot4' _ _ _ _ cs))
        clear AR
        go_wp2_with fail
        refine (xerrRd A6.out).mono ?_
        rintro e w4 ⟨rfl, A7⟩
        have A7 := hid A7
        clear A6
        have erx : w4.heap[w.heap.size + 1]? = some (.cells #[.int .i64 0, .int .i64 kk, .slice so k sc] 37 (0, 0)) := A7.out.blk (vs := [.int .i64 0, .int .i64 kk, .slice so k sc]) (by simp)
        have x0 : w4.cell? ⟨w.heap.size + 1, 0, none⟩ = some (.int .i64 0) := by rw [cell_at erx]; rfl
        have x1 : w4.cell? ⟨w.heap.size + 1, 1, none⟩ = some (.int .i64 kk) := by rw [cell_at erx]; rfl
        have x2 : w4.cell? ⟨w.heap.size + 1, 2, none⟩ = some (.slice so k sc) := by rw [cell_at erx]; rfl
        have fx0 : w4.frozen? ⟨w.heap.size + 1, 0, none⟩ = false := free_at erx 0
        have fx1 : w4.frozen? ⟨w.heap.size + 1, 1, none⟩ = false := free_at erx 1
        have fx2 : w4.frozen? ⟨w.heap.size + 1, 2, none⟩ = false := free_at erx 2
        clear erx
        have err : w4.heap[w.heap.size]? = some (.cells #[.int .i64 0, .int .i64 0, .slice none 0 0] 37 (0, 0)) := A7.out.blk (g := w.heap.size) (vs := [.int .i64 0, .int .i64 0, .slice none 0 0]) (by simp)
        have r0 : w4.cell? ⟨w.heap.size, 0, none⟩ = some (.int .i64 0) := by rw [cell_at err]; rfl
        have r1 : w4.cell? ⟨w.heap.size, 1, none⟩ = some (.int .i64 0) := by rw [cell_at err]; rfl
        have r2 : w4.cell? ⟨w.heap.size, 2, none⟩ = some (.slice none 0 0) := by rw [cell_at err]; rfl
        have fr0 : w4.frozen? ⟨w.heap.size, 0, none⟩ = false := free_at err 0
        have fr1 : w4.frozen? ⟨w.heap.size, 1, none⟩ = false := free_at err 1
        have fr2 : w4.frozen? ⟨w.heap.size, 2, none⟩ = false := free_at err 2
        clear err
        by_cases he : q9.err = 0
        · have ee : (q9.err != 0) = false := by simpa using he
          have V : Hid (r.resV = ⟨0, kk, LL⟩ ∧ r.res = q9) := hid ⟨by rw [Rst.resV, F.out, if_pos he], by rw [Rst.res, F.out]⟩
          clear he F
          go_wp2
          have A8 := (((A7.out.swap.setBlk 0 (.int .i64 0)).setBlk 1 (.int .i64 kk)).setBlk 2 (.slice so k sc))
          refine bodyPost_ret (v := resV 0 kk (.slice so k sc)) (res63 (b := w.heap.size) rfl A8.1.2.1) rfl ?_
          refine ⟨so, sc, by rw [V.out.1, hnl.out], ?_⟩
          rw [V.out.1, V.out.2, ← hnl.out]
          exact (A8.tail.sublist (.cons_cons _ (.cons _ (.refl _)))).swap
        · have ee : (q9.err != 0) = true := by simpa using he
          have V : Hid (r.resV = ⟨0, 0, []⟩ ∧ r.res = q9) := hid ⟨by rw [Rst.resV, F.out, if_neg he], by rw [Rst.res, F.out]⟩
          clear he F
          go_wp2
          have A8 := (((A7.out.swap.setBlk 0 (.int .i64 0)).setBlk 1 (.int .i64 0)).setBlk 2 (.slice none 0 0))
          refine bodyPost_ret (v := resV 0 0 (.slice none 0 0)) (res63 (b := w.heap.size) rfl A8.1.2.1) rfl ?_
          refine ⟨none, 0, by rw [V.out.1]; rfl, ?_⟩
          rw [V.out.1, V.out.2]
          exact All.addNil (A8.tail.sublist (.cons_cons _ (.cons _ (.cons _ (.refl _)))))
      have el : decide ((k : Int) < (N : Int)) = true := by simpa using hlt
      have A6 := hid (AR.out.perm (rot4' _ _ _ _ cs))
      clear AR
      go_wp2_with fail
      refine (xtextRd A6.out hp 64).mono ?_
      rintro e w4 ⟨rfl, A7⟩
      obtain ⟨t, ht⟩ : ∃ t, Hid (t = (q8.items k).2.txtV 64) := ⟨_, hid rfl⟩
      rw [← ht.out]
      have A8 := A7.perm (rot4b _ _ _ _ cs)
      have A9 := hid (A8.alloc (.cells #[.string t] 9))
      have hrow : (w4.alloc (.cells #[.string t] 9)).ownsRow 0 9 1 (.slice so k sc) k (cellsT (q8.items k).1) := by
        have h1 : (w4.alloc (.cells #[.string t] 9)).ownsRow 0 9 1 (.slice so k sc) (cellsT (q8.items k).1).length (cellsT (q8.items k).1) := A9.out.1.2.1
        rw [cellsT_length, items_len] at h1
        exact h1
      have hnews : ∀ j u, [.string t][j]? = some u → (w4.alloc (.cells #[.string t] 9)).cell? ((⟨w4.heap.size, 0, none⟩ : Addr).add j) = some u := by
        intro j u hu
        rw [Addr.add_lit, cell_at (heap_alloc_new w4 _)]
        cases j with
        | zero => simpa using hu
        | succ j => simp at hu
      have hone : ∀ u ∈ [Value.string t], u.oneCell' = true := by
        intro u hu
        simp only [List.mem_singleton] at hu
        subst hu
        rfl
      have A8h := hid A8
      have erx : w4.heap[w.heap.size + 1]? = some (.cells #[.int .i64 0, .int .i64 kk, .slice so k sc] 37 (0, 0)) := A8h.out.blk (vs := [.int .i64 0, .int .i64 kk, .slice so k sc]) (by simp)
      have x0 : w4.cell? ⟨w.heap.size + 1, 0, none⟩ = some (.int .i64 0) := by rw [cell_at erx]; rfl
      have x1 : w4.cell? ⟨w.heap.size + 1, 1, none⟩ = some (.int .i64 kk) := by rw [cell_at erx]; rfl
      have x2 : w4.cell? ⟨w.heap.size + 1, 2, none⟩ = some (.slice so k sc) := by rw [cell_at erx]; rfl
      have fx0 : w4.frozen? ⟨w.heap.size + 1, 0, none⟩ = false := free_at erx 0
      have fx1 : w4.frozen? ⟨w.heap.size + 1, 1, none⟩ = false := free_at erx 1
      have fx2 : w4.frozen? ⟨w.heap.size + 1, 2, none⟩ = false := free_at erx 2
      clear erx
      have hxl : w.heap.size + 1 < w4.heap.size := by
        have := (A8h.out.mem (c := blkC (w.heap.size + 1) [.int .i64 0, .int .i64 kk, .slice so k sc] 37) (by simp)).2.2 (w.heap.size + 1) (by simp [blkC])
        exact this
      clear A6 A7 A8 A8h
      go_wp2_with (at_builtin; refine wpList_append_own_at _ rfl (.tmp 29) (.tmp 31) 35 rfl 0 9 i0 (.string (.mk #[])) 1 16 Try.underlying35 hi hz0 hz1 hz2 rfl (by decide) _ _ _ rfl hrow ⟨w4.heap.size, 0, none⟩ 1 1 [.string t] rfl rfl hnews hone (by unfold maxLen; omega) (by omega) (by simp) ?_)
      intro v' w5 hown hgr _ hat
      have A10 := A9.out.ownGrow (vs' := cellsT (q8.items (k + 1)).1) (base := 0) (v' := v') (by
        rw [cellsT_length, items_len]
        simpa [Rst.items, cellsT, ← ht.out] using hown) hgr (by simpa using hat)
      obtain ⟨so', sc', rfl⟩ := owns_form hown
      have A11 := hid A10
      clear hown hgr hat A9 A10 hrow hnews hone x0 x1 x2 fx0 fx1 fx2
      have erx : w5.heap[w.heap.size + 1]? = some (.cells #[.int .i64 0, .int .i64 kk, .slice so k sc] 37 (0, 0)) := A11.out.blk (vs := [.int .i64 0, .int .i64 kk, .slice so k sc]) (by simp)
      have x0 : w5.cell? ⟨w.heap.size + 1, 0, none⟩ = some (.int .i64 0) := by rw [cell_at erx]; rfl
      have x1 : w5.cell? ⟨w.heap.size + 1, 1, none⟩ = some (.int .i64 kk) := by rw [cell_at erx]; rfl
      have x2 : w5.cell? ⟨w.heap.size + 1, 2, none⟩ = some (.slice so k sc) := by rw [cell_at erx]; rfl
      have fx0 : w5.frozen? ⟨w.heap.size + 1, 0, none⟩ = false := free_at erx 0
      have fx1 : w5.frozen? ⟨w.heap.size + 1, 1, none⟩ = false := free_at erx 1
      have fx2 : w5.frozen? ⟨w.heap.size + 1, 2, none⟩ = false := free_at erx 2
      clear erx
      have A12 := hid (A11.out.swap.setBlk 2 (.slice so' (k + 1) sc')).swap
      clear A11
      go_wp2
      go_roundw
      case rel => exact ⟨k + 1, so', sc', by go_num, by omega, A12⟩
      case measure => simp [intOf]; omega
  · have F : Hid (r.res0 = (⟨c, 0, []⟩, r.num 4)) := hid (by rw [Rst.res0, if_neg (by rw [← hc.out]; exact h0), hc.out])
    have ec : (c == 0) = false := by simpa using h0
    go_wp2_with fail
    refine (xerrRd A2.out).mono ?_
    rintro e w4 ⟨rfl, A7⟩
    have A7 := hid A7
    clear A2 x0 x1 x2 fx0 fx1 fx2
    have erx : w4.heap[w.heap.size + 1]? = some (.cells #[.int .i64 c, .int .i64 0, .slice none 0 0] 37 (0, 0)) := A7.out.blk (vs := [.int .i64 c, .int .i64 0, .slice none 0 0]) (by simp)
    have x0 : w4.cell? ⟨w.heap.size + 1, 0, none⟩ = some (.int .i64 c) := by rw [cell_at erx]; rfl
    have x1 : w4.cell? ⟨w.heap.size + 1, 1, none⟩ = some (.int .i64 0) := by rw [cell_at erx]; rfl
    have x2 : w4.cell? ⟨w.heap.size + 1, 2, none⟩ = some (.slice none 0 0) := by rw [cell_at erx]; rfl
    have fx0 : w4.frozen? ⟨w.heap.size + 1, 0, none⟩ = false := free_at erx 0
    have fx1 : w4.frozen? ⟨w.heap.size + 1, 1, none⟩ = false := free_at erx 1
    have fx2 : w4.frozen? ⟨w.heap.size + 1, 2, none⟩ = false := free_at erx 2
    clear erx
    have err : w4.heap[w.heap.size]? = some (.cells #[.int .i64 0, .int .i64 0, .slice none 0 0] 37 (0, 0)) := A7.out.blk (g := w.heap.size) (vs := [.int .i64 0, .int .i64 0, .slice none 0 0]) (by simp)
    have r0 : w4.cell? ⟨w.heap.size, 0, none⟩ = some (.int .i64 0) := by rw [cell_at err]; rfl
    have r1 : w4.cell? ⟨w.heap.size, 1, none⟩ = some (.int .i64 0) := by rw [cell_at err]; rfl
    have r2 : w4.cell? ⟨w.heap.size, 2, none⟩ = some (.slice none 0 0) := by rw [cell_at err]; rfl
    have fr0 : w4.frozen? ⟨w.heap.size, 0, none⟩ = false := free_at err 0
    have fr1 : w4.frozen? ⟨w.heap.size, 1, none⟩ = false := free_at err 1
    have fr2 : w4.frozen? ⟨w.heap.size, 2, none⟩ = false := free_at err 2
    clear err
    by_cases he : (r.num 4).err = 0
    · have ee : ((r.num 4).err != 0) = false := by simpa using he
      have V : Hid (r.resV = ⟨c, 0, []⟩ ∧ r.res = (r.num 4)) := hid ⟨by rw [Rst.resV, F.out, if_pos he], by rw [Rst.res, F.out]⟩
      clear he F
      go_wp2
      have A8 := (((A7.out.swap.setBlk 0 (.int .i64 c)).setBlk 1 (.int .i64 0)).setBlk 2 (.slice none 0 0))
      refine bodyPost_ret (v := resV c 0 (.slice none 0 0)) (res63 (b := w.heap.size) rfl A8.1.2.1) rfl ?_
      refine ⟨none, 0, by rw [V.out.1]; rfl, ?_⟩
      rw [V.out.1, V.out.2]
      exact All.addNil (A8.tail.sublist (.cons_cons _ (.cons _ (.refl _))))
    · have ee : ((r.num 4).err != 0) = true := by simpa using he
      have V : Hid (r.resV = ⟨0, 0, []⟩ ∧ r.res = (r.num 4)) := hid ⟨by rw [Rst.resV, F.out, if_neg he], by rw [Rst.res, F.out]⟩
      clear he F
      go_wp2
      have A8 := (((A7.out.swap.setBlk 0 (.int .i64 0)).setBlk 1 (.int .i64 0)).setBlk 2 (.slice none 0 0))
      refine bodyPost_ret (v := resV 0 0 (.slice none 0 0)) (res63 (b := w.heap.size) rfl A8.1.2.1) rfl ?_
      refine ⟨none, 0, by rw [V.out.1]; rfl, ?_⟩
      rw [V.out.1, V.out.2]
      exact All.addNil (A8.tail.sublist (.cons_cons _ (.cons _ (.refl _))))

end Go.Proofs.Ytagdpfghooogfaa

namespace Go.Proofs.Ytagdpfghooogfaa
open Go.RowKit
set_option linter.unusedVariables false

theorem xmay_any {w : World} (n a c k : Int) {s : Value} {l : List ByteArray} (h : Txts w s l) (hl : l.length ≤ 9223372036854775807) : Calls Try.prog 32 #[rowV n a c k s] w fun e w' => e = .returned (.bool (may n a c k l)) ∧ Below w.heap.size w w' := by
  obtain ⟨ao, cp, rfl⟩ := h.form
  have HT := hid h
  have A0 := hid ((All.came w).addBlk [.int .i64 n, .int .i64 a, .int .i64 c, .int .i64 k, .slice ao l.length cp] 39)
  clear h
  go_enter Try.func32, Try.ntmps32
  go_wp2_with fail
  refine (checkX_ref c k (HT.out.alloc _) hl).mono ?_
  rintro e w1 ⟨rfl, B⟩
  have A1 := hid (A0.out.later B)
  have B := hid ((ba w _).trans (B.mono (by simp)))
  have erx : w1.heap[w.heap.size]? = some (.cells #[.int .i64 n, .int .i64 a, .int .i64 c, .int .i64 k, .slice ao l.length cp] 39 (0, 0)) := A1.out.1.2.1
  have x0 : w1.cell? ⟨w.heap.size, 0, none⟩ = some (.int .i64 n) := by rw [cell_at erx]; rfl
  have x1 : w1.cell? ⟨w.heap.size, 1, none⟩ = some (.int .i64 a) := by rw [cell_at erx]; rfl
  have x2 : w1.cell? ⟨w.heap.size, 2, none⟩ = some (.int .i64 c) := by rw [cell_at erx]; rfl
  have x3 : w1.cell? ⟨w.heap.size, 3, none⟩ = some (.int .i64 k) := by rw [cell_at erx]; rfl
  have x4 : w1.cell? ⟨w.heap.size, 4, none⟩ = some (.slice ao l.length cp) := by rw [cell_at erx]; rfl
  clear erx
  obtain ⟨ck, hck⟩ : ∃ ck, Hid (ck = chkX c k l) := ⟨_, hid rfl⟩
  rw [← hck.out]
  clear A0 A1
  by_cases h0 : 1 ≤ n
  · have e0 : decide (1 ≤ n) = true := by simpa using h0
    by_cases h1 : n ≤ 1099511627776
    · have e1 : decide (n ≤ 1099511627776) = true := by simpa using h1
      by_cases h2 : 1 ≤ a
      · have e2 : decide (1 ≤ a) = true := by simpa using h2
        by_cases h3 : a ≤ 1099511627776
        · have e3 : decide (a ≤ 1099511627776) = true := by simpa using h3
          have F : Hid (may n a c k l = (ck == 0)) := by show _ = _; rw [hck.out]; unfold may; rw [Bool.eq_iff_iff]; simp [h0, h1, h2, h3]
          go_wp2
          go_ret
          exact ⟨by rw [F.out]; rfl, B.out⟩
        · have e3 : decide (a ≤ 1099511627776) = false := by simpa using h3
          have F : Hid (may n a c k l = false) := by show _ = _; simp [may, h3]
          go_wp2
          go_ret
          exact ⟨by rw [F.out]; rfl, B.out⟩
      · have e2 : decide (1 ≤ a) = false := by simpa using h2
        have F : Hid (may n a c k l = false) := by show _ = _; simp [may, h2]
        go_wp2
        go_ret
        exact ⟨by rw [F.out]; rfl, B.out⟩
    · have e1 : decide (n ≤ 1099511627776) = false := by simpa using h1
      have F : Hid (may n a c k l = false) := by show _ = _; simp [may, h1]
      go_wp2
      go_ret
      exact ⟨by rw [F.out]; rfl, B.out⟩
  · have e0 : decide (1 ≤ n) = false := by simpa using h0
    have F : Hid (may n a c k l = false) := by show _ = _; simp [may, h0]
    go_wp2
    go_ret
    exact ⟨by rw [F.out]; rfl, B.out⟩

theorem res49 {tmps : Array Value} {w : World} {b : Nat} {n a c k : Int} {s v : Value} (ht : tmps.getD 2 undef = .pointer (some ⟨b, 0, none⟩)) (hv : tmps.getD 3 undef = v) (h : w.heap[b]? = some (.cells #[.int .i64 n, .int .i64 a, .int .i64 c, .int .i64 k, s] 39 (0, 0))) : (results Try.f49 tmps).run Try.prog w = .ok (.tuple #[rowV n a c k s, v]) w := by
  have hp' : tmps[2]?.getD undef = .pointer (some ⟨b, 0, none⟩) := by simpa using ht
  have hv' : tmps[3]?.getD undef = v := by simpa using hv
  have hres : Try.f49.results = #[.cell 2 39, .tmp 3] := rfl
  have x0 : w.cell? ⟨b, 0, none⟩ = some (.int .i64 n) := by rw [cell_at h]; rfl
  have x1 : w.cell? ⟨b, 1, none⟩ = some (.int .i64 a) := by rw [cell_at h]; rfl
  have x2 : w.cell? ⟨b, 2, none⟩ = some (.int .i64 c) := by rw [cell_at h]; rfl
  have x3 : w.cell? ⟨b, 3, none⟩ = some (.int .i64 k) := by rw [cell_at h]; rfl
  have x4 : w.cell? ⟨b, 4, none⟩ = some s := by rw [cell_at h]; rfl
  simp only [results, hres]
  go_simp

set_option maxHeartbeats 3200000 in
set_option maxRecDepth 1000000 in
theorem xread_any {s : Value} {bs : List UInt8} {cs : List Comp} {w : World} (h : All cs w) (hr : Reads w s bs) (hlen : bs.length ≤ 140737488355328) :
    Calls Try.prog 49 #[s] w fun e w' => ∃ so sc, e = .returned (.tuple #[rowV (rowR bs).n (rowR bs).a (rowR bs).c (rowR bs).k (.slice so (rowR bs).l.length sc), .bool (rowOk bs)]) ∧ All (ownC 9 (.slice so (rowR bs).l.length sc) (cellsT (rowR bs).l) :: cs) w' := by
  obtain ⟨ao, cp, rfl⟩ := hr.form
  have A0 := hid (h.addBlk [.int .i64 0, .int .i64 0, .int .i64 0, .int .i64 0, .slice none 0 0] 39)
  have HR := hid hr
  clear h hr
  go_enter Try.func49, Try.ntmps49
  go_wp2_with fail
  refine (xnewRd A0.out (HR.out.below (ba _ _)) hlen).mono ?_
  rintro e w1 ⟨b, v1, rfl, A1⟩
  have A1 := hid A1
  clear A0 HR
  go_wp2_with fail
  refine (xnumRd A1.out hlen 1099511627776).mono ?_
  rintro e w2 ⟨rfl, A2⟩
  have A2 := hid A2
  clear A1
  go_wp2_with fail
  refine (xnumRd A2.out hlen 1099511627776).mono ?_
  rintro e w3 ⟨rfl, A3⟩
  obtain ⟨X, hX⟩ : ∃ X, Hid (X = rowR bs) := ⟨_, hid rfl⟩
  have X1 : (⟨bs, 0, 0⟩ : Rst).numV 1099511627776 = X.n := by rw [hX.out]; rfl
  have X2 : ((⟨bs, 0, 0⟩ : Rst).num 1099511627776).numV 1099511627776 = X.a := by rw [hX.out]; rfl
  have X3 : Hid ((((⟨bs, 0, 0⟩ : Rst).num 1099511627776).num 1099511627776).resV = ⟨X.c, X.k, X.l⟩) := hid (by rw [hX.out]; rfl)
  rw [X1, X2]
  have A4 := hid ((A3.addBlk [.int .i64 X.n, .int .i64 X.a, .int .i64 0, .int .i64 0, .slice none 0 0] 39).swap)
  clear A2 A3 X1 X2
  go_wp2_with fail
  refine (xgetResult_any A4.out hlen).mono ?_
  rintro e w4 ⟨so, sc, rfl, A5⟩
  obtain ⟨q4, hq4⟩ : ∃ q4, Hid (q4 = (((rst0 bs).num 1099511627776).num 1099511627776).res) := ⟨_, hid rfl⟩
  rw [show (((⟨bs, 0, 0⟩ : Rst).num 1099511627776).num 1099511627776).res = q4 from hq4.out.symm, X3.out] at A5
  rw [X3.out]
  have E4 : Hid (rowOk bs = (q4.close == 0 && may X.n X.a X.c X.k X.l)) := hid (by rw [hX.out, hq4.out]; rfl)
  have HL : Hid (X.l.length ≤ 9223372036854775807) := hid (by
    have : X.l = (((rst0 bs).num 1099511627776).num 1099511627776).resV.l := by rw [hX.out]; rfl
    rw [this]
    exact resV_len _)
  simp only at A5 ⊢
  obtain ⟨nl, hnl⟩ : ∃ nl, Hid (nl = X.l.length) := ⟨_, hid rfl⟩
  rw [← hnl.out] at A5 ⊢
  have A5 := hid A5
  have erx : w4.heap[w3.heap.size]? = some (.cells #[.int .i64 X.n, .int .i64 X.a, .int .i64 0, .int .i64 0, .slice none 0 0] 39 (0, 0)) := A5.out.blk (vs := [.int .i64 X.n, .int .i64 X.a, .int .i64 0, .int .i64 0, .slice none 0 0]) (by simp)
  have x0 : w4.cell? ⟨w3.heap.size, 0, none⟩ = some (.int .i64 X.n) := by rw [cell_at erx]; rfl
  have x1 : w4.cell? ⟨w3.heap.size, 1, none⟩ = some (.int .i64 X.a) := by rw [cell_at erx]; rfl
  have x2 : w4.cell? ⟨w3.heap.size, 2, none⟩ = some (.int .i64 0) := by rw [cell_at erx]; rfl
  have x3 : w4.cell? ⟨w3.heap.size, 3, none⟩ = some (.int .i64 0) := by rw [cell_at erx]; rfl
  have x4 : w4.cell? ⟨w3.heap.size, 4, none⟩ = some (.slice none 0 0) := by rw [cell_at erx]; rfl
  have fx2 : w4.frozen? ⟨w3.heap.size, 2, none⟩ = false := free_at erx 2
  have fx3 : w4.frozen? ⟨w3.heap.size, 3, none⟩ = false := free_at erx 3
  have fx4 : w4.frozen? ⟨w3.heap.size, 4, none⟩ = false := free_at erx 4
  clear erx
  have A6 := hid (((A5.out.rev3.setBlk 2 (.int .i64 X.c)).setBlk 3 (.int .i64 X.k)).setBlk 4 (.slice so nl sc)).swap
  clear A4 A5 X3
  go_wp2_with fail
  refine (xcloseRd A6.out hlen).mono ?_
  rintro e w5 ⟨rfl, A7⟩
  obtain ⟨ck, hck⟩ : ∃ ck, Hid (ck = q4.close) := ⟨_, hid rfl⟩
  rw [← hck.out] at A7 E4 ⊢
  have A7 : Hid (All (xrC b v1 bs ⟨[], q4.place, ck⟩ :: blkC w3.heap.size [.int .i64 X.n, .int .i64 X.a, .int .i64 X.c, .int .i64 X.k, .slice so nl sc] 39 :: ownC 9 (.slice so nl sc) (cellsT X.l) :: blkC w.heap.size [.int .i64 0, .int .i64 0, .int .i64 0, .int .i64 0, .slice none 0 0] 39 :: cs) w5) := hid A7
  clear A6 x0 x1 x2 x3 x4 fx2 fx3 fx4
  have erx : w5.heap[w3.heap.size]? = some (.cells #[.int .i64 X.n, .int .i64 X.a, .int .i64 X.c, .int .i64 X.k, .slice so nl sc] 39 (0, 0)) := A7.out.tail.1.2.1
  have x0 : w5.cell? ⟨w3.heap.size, 0, none⟩ = some (.int .i64 X.n) := by rw [cell_at erx]; rfl
  have x1 : w5.cell? ⟨w3.heap.size, 1, none⟩ = some (.int .i64 X.a) := by rw [cell_at erx]; rfl
  have x2 : w5.cell? ⟨w3.heap.size, 2, none⟩ = some (.int .i64 X.c) := by rw [cell_at erx]; rfl
  have x3 : w5.cell? ⟨w3.heap.size, 3, none⟩ = some (.int .i64 X.k) := by rw [cell_at erx]; rfl
  have x4 : w5.cell? ⟨w3.heap.size, 4, none⟩ = some (.slice so nl sc) := by rw [cell_at erx]; rfl
  clear erx
  have HT : Hid (Txts w5 (.slice so nl sc) X.l) := hid (Txts.of_owns (base := 0) (by
    have h2 : w5.ownsRow 0 9 1 (.slice so nl sc) (cellsT X.l).length (cellsT X.l) := A7.out.tail.tail.1.2.1
    rw [cellsT_length] at h2; exact h2))
  go_wp2_with fail
  refine (xmay_any X.n X.a X.c X.k HT.out HL.out).mono ?_
  rintro e w6 ⟨rfl, B6⟩
  have A8 := hid (A7.out.later B6)
  clear HT B6 A7 x0 x1 x2 x3 x4
  have erx : w6.heap[w3.heap.size]? = some (.cells #[.int .i64 X.n, .int .i64 X.a, .int .i64 X.c, .int .i64 X.k, .slice so nl sc] 39 (0, 0)) := A8.out.tail.1.2.1
  have x0 : w6.cell? ⟨w3.heap.size, 0, none⟩ = some (.int .i64 X.n) := by rw [cell_at erx]; rfl
  have x1 : w6.cell? ⟨w3.heap.size, 1, none⟩ = some (.int .i64 X.a) := by rw [cell_at erx]; rfl
  have x2 : w6.cell? ⟨w3.heap.size, 2, none⟩ = some (.int .i64 X.c) := by rw [cell_at erx]; rfl
  have x3 : w6.cell? ⟨w3.heap.size, 3, none⟩ = some (.int .i64 X.k) := by rw [cell_at erx]; rfl
  have x4 : w6.cell? ⟨w3.heap.size, 4, none⟩ = some (.slice so nl sc) := by rw [cell_at erx]; rfl
  clear erx
  have err : w6.heap[w.heap.size]? = some (.cells #[.int .i64 0, .int .i64 0, .int .i64 0, .int .i64 0, .slice none 0 0] 39 (0, 0)) := A8.out.tail.tail.tail.1.2.1
  have r0 : w6.cell? ⟨w.heap.size, 0, none⟩ = some (.int .i64 0) := by rw [cell_at err]; rfl
  have r1 : w6.cell? ⟨w.heap.size, 1, none⟩ = some (.int .i64 0) := by rw [cell_at err]; rfl
  have r2 : w6.cell? ⟨w.heap.size, 2, none⟩ = some (.int .i64 0) := by rw [cell_at err]; rfl
  have r3 : w6.cell? ⟨w.heap.size, 3, none⟩ = some (.int .i64 0) := by rw [cell_at err]; rfl
  have r4 : w6.cell? ⟨w.heap.size, 4, none⟩ = some (.slice none 0 0) := by rw [cell_at err]; rfl
  have fr0 : w6.frozen? ⟨w.heap.size, 0, none⟩ = false := free_at err 0
  have fr1 : w6.frozen? ⟨w.heap.size, 1, none⟩ = false := free_at err 1
  have fr2 : w6.frozen? ⟨w.heap.size, 2, none⟩ = false := free_at err 2
  have fr3 : w6.frozen? ⟨w.heap.size, 3, none⟩ = false := free_at err 3
  have fr4 : w6.frozen? ⟨w.heap.size, 4, none⟩ = false := free_at err 4
  clear err
  obtain ⟨mv, hmv⟩ : ∃ mv, Hid (mv = may X.n X.a X.c X.k X.l) := ⟨_, hid rfl⟩
  rw [← hmv.out] at E4 ⊢
  have FIN : Hid (∀ W, W = (((((w6.setCell ⟨w.heap.size, 0, none⟩ (.int .i64 X.n)).setCell ⟨w.heap.size, 1, none⟩ (.int .i64 X.a)).setCell ⟨w.heap.size, 2, none⟩ (.int .i64 X.c)).setCell ⟨w.heap.size, 3, none⟩ (.int .i64 X.k)).setCell ⟨w.heap.size, 4, none⟩ (.slice so nl sc)) → W.heap[w.heap.size]? = some (.cells #[.int .i64 X.n, .int .i64 X.a, .int .i64 X.c, .int .i64 X.k, .slice so nl sc] 39 (0, 0)) ∧ All (ownC 9 (.slice so nl sc) (cellsT X.l) :: cs) W) := hid (by
    rintro W rfl
    have A9 := ((((((A8.out.perm (rot4' _ _ _ _ cs)).setBlk 0 (.int .i64 X.n)).setBlk 1 (.int .i64 X.a)).setBlk 2 (.int .i64 X.c)).setBlk 3 (.int .i64 X.k)).setBlk 4 (.slice so nl sc))
    exact ⟨A9.1.2.1, A9.tail.sublist (.cons_cons _ (.cons _ (.cons _ (.refl _))))⟩)
  clear A8
  by_cases hc : ck = 0
  · have ec : (ck == 0) = true := by simpa using hc
    have EV : Hid (rowOk bs = mv) := hid (by rw [E4.out, ec]; rfl)
    clear hc E4
    go_wp2
    obtain ⟨f1, f2⟩ := FIN.out _ rfl
    refine bodyPost_ret (v := .tuple #[rowV X.n X.a X.c X.k (.slice so nl sc), .bool mv]) (res49 (b := w.heap.size) rfl rfl f1) rfl ?_
    refine ⟨so, sc, ?_, ?_⟩
    · rw [← hX.out, ← hnl.out, EV.out]
    · rw [← hX.out, ← hnl.out]; exact f2
  · have ec : (ck == 0) = false := by simpa using hc
    have EV : Hid (rowOk bs = false) := hid (by rw [E4.out, ec]; rfl)
    clear hc E4
    go_wp2
    obtain ⟨f1, f2⟩ := FIN.out _ rfl
    refine bodyPost_ret (v := .tuple #[rowV X.n X.a X.c X.k (.slice so nl sc), .bool false]) (res49 (b := w.heap.size) rfl rfl f1) rfl ?_
    refine ⟨so, sc, ?_, ?_⟩
    · rw [← hX.out, ← hnl.out, EV.out]
    · rw [← hX.out, ← hnl.out]; exact f2

end Go.Proofs.Ytagdpfghooogfaa

namespace Go.Proofs.Ytagdpfghooogfaa
open Go.RowKit
set_option linter.unusedVariables false

def Pl.row5 (p : Pl) : List Value := [.int .i64 p.n, .int .i64 p.a, .int .i64 p.c, .int .i64 p.k, p.s]
def rowsX (ps : List Pl) : List Value := ps.flatMap Pl.row5
def hasX (ps : List Pl) : List Value := ps.map fun p => .bool p.on
def flatXP (ps : List Pl) : List Value := rowsX ps ++ hasX ps
theorem rowsX_len (ps : List Pl) : (rowsX ps).length = 5 * ps.length := by
  induction ps with
  | nil => rfl
  | cons p ps ih => simp only [rowsX, List.flatMap_cons, List.length_append, List.length_cons] at ih ⊢; rw [ih]; simp [Pl.row5]; omega
theorem rowsX_at {ps : List Pl} {i : Nat} {p : Pl} (h : ps[i]? = some p) {j : Nat} (hj : j < 5) : (rowsX ps)[i * 5 + j]? = p.row5[j]? := by
  induction ps generalizing i with
  | nil => simp at h
  | cons q ps ih =>
    have hq : q.row5.length = 5 := rfl
    cases i with
    | zero =>
      have : q = p := by simpa using h
      subst this
      simp only [rowsX, List.flatMap_cons, Nat.zero_mul, Nat.zero_add]
      rw [List.getElem?_append_left (by omega)]
    | succ i =>
      have := ih (i := i) (by simpa using h)
      simp only [rowsX, List.flatMap_cons]
      rw [List.getElem?_append_right (by omega), ← this, rowsX]
      congr 1
      omega
theorem rowsX_set {ps : List Pl} {i : Nat} {p q : Pl} (h : ps[i]? = some p) : (((((rowsX ps).set (i * 5) (.int .i64 q.n)).set (i * 5 + 1) (.int .i64 q.a)).set (i * 5 + 2) (.int .i64 q.c)).set (i * 5 + 3) (.int .i64 q.k)).set (i * 5 + 4) q.s = rowsX (ps.set i q) := by
  induction ps generalizing i with
  | nil => simp at h
  | cons r ps ih =>
    cases i with
    | zero => simp [rowsX, Pl.row5]
    | succ i =>
      have := ih (i := i) (by simpa using h)
      have e : ∀ (m : Nat) (u : Value) (L : List Value), (r.row5 ++ L).set (5 + m) u = r.row5 ++ L.set m u := fun m u L => by
        rw [List.set_append_right _ _ (by simp [Pl.row5])]; simp [Pl.row5]
      have e0 : (i + 1) * 5 = 5 + i * 5 := by omega
      simp only [rowsX, List.flatMap_cons, List.set_cons_succ] at this ⊢
      rw [e0]
      simp only [Nat.add_assoc, e]
      rw [this]

theorem flatXP_at {ps : List Pl} (h8 : ps.length = 8) {i : Nat} {p : Pl} (h : ps[i]? = some p) {j : Nat} (hj : j < 5) : (flatXP ps)[i * 5 + j]? = p.row5[j]? := by
  have hi : i < ps.length := (List.getElem?_eq_some_iff.1 h).1
  rw [flatXP, List.getElem?_append_left (by rw [rowsX_len]; omega)]
  exact rowsX_at h hj
theorem flatXP_has {ps : List Pl} (h8 : ps.length = 8) {i : Nat} {p : Pl} (h : ps[i]? = some p) : (flatXP ps)[40 + i]? = some (.bool p.on) := by
  rw [flatXP, List.getElem?_append_right (by rw [rowsX_len]; omega), rowsX_len, h8, show 40 + i - 5 * 8 = i by omega, hasX, List.getElem?_map, h]
  rfl
theorem flatXP_set {ps : List Pl} (h8 : ps.length = 8) {i : Nat} {p q : Pl} (h : ps[i]? = some p) (ho : q.on = true) : ((((((flatXP ps).set (i * 5) (.int .i64 q.n)).set (i * 5 + 1) (.int .i64 q.a)).set (i * 5 + 2) (.int .i64 q.c)).set (i * 5 + 3) (.int .i64 q.k)).set (i * 5 + 4) q.s).set (40 + i) (.bool true) = flatXP (ps.set i q) := by
  have hi : i < ps.length := (List.getElem?_eq_some_iff.1 h).1
  have hl := rowsX_len ps
  unfold flatXP
  rw [List.set_append_left _ _ (by omega), List.set_append_left _ _ (by simp; omega), List.set_append_left _ _ (by simp; omega), List.set_append_left _ _ (by simp; omega), List.set_append_left _ _ (by simp; omega), rowsX_set h,
    List.set_append_right _ _ (by rw [rowsX_len]; simp; omega), rowsX_len]
  simp only [List.length_set, h8]
  rw [show 40 + i - 5 * 8 = i by omega]
  congr 1
  unfold hasX
  rw [← ho, List.map_set]

/-- The document's roll, as parts. -/
def xrollL (g : Nat) (ps : List Pl) : List Comp := blkC g (flatXP ps) 73 :: ps.map Pl.part

theorem All.xplace {g i : Nat} {ps : List Pl} {p : Pl} {cs : List Comp} {w : World} (h : All (xrollL g ps ++ cs) w) (hp : ps[i]? = some p) : w.heap[g]? = some (.cells (flatXP ps).toArray 73 (0, 0)) ∧ Txts w p.s p.l := by
  refine ⟨h.blk (by simp [xrollL]), ?_⟩
  have hm : p.part ∈ xrollL g ps ++ cs := List.mem_append_left _ (List.mem_cons_of_mem _ (List.mem_map_of_mem (List.mem_of_getElem? hp)))
  have := (h.mem hm).2.1
  exact Txts.of_owns (by have h2 : w.ownsRow 0 9 1 p.s (cellsT p.l).length (cellsT p.l) := this; rw [cellsT_length] at h2; exact h2)

theorem xcells {g i : Nat} {ps : List Pl} {p : Pl} {w : World} (h8 : ps.length = 8) (h : w.heap[g]? = some (.cells (flatXP ps).toArray 73 (0, 0))) (hp : ps[i]? = some p) :
    w.cell? ⟨g, 40 + i, none⟩ = some (.bool p.on) ∧ w.cell? ⟨g, i * 5, none⟩ = some (.int .i64 p.n) ∧ w.cell? ⟨g, i * 5 + 1, none⟩ = some (.int .i64 p.a) ∧ w.cell? ⟨g, i * 5 + 2, none⟩ = some (.int .i64 p.c) ∧ w.cell? ⟨g, i * 5 + 3, none⟩ = some (.int .i64 p.k) ∧ w.cell? ⟨g, i * 5 + 4, none⟩ = some p.s := by
  refine ⟨?_, ?_, ?_, ?_, ?_, ?_⟩
  · rw [cell_at h]; exact (List.getElem?_toArray ..).trans (flatXP_has h8 hp)
  · rw [cell_at h]; exact (List.getElem?_toArray ..).trans (flatXP_at h8 hp (j := 0) (by omega))
  · rw [cell_at h]; exact (List.getElem?_toArray ..).trans (flatXP_at h8 hp (j := 1) (by omega))
  · rw [cell_at h]; exact (List.getElem?_toArray ..).trans (flatXP_at h8 hp (j := 2) (by omega))
  · rw [cell_at h]; exact (List.getElem?_toArray ..).trans (flatXP_at h8 hp (j := 3) (by omega))
  · rw [cell_at h]; exact (List.getElem?_toArray ..).trans (flatXP_at h8 hp (j := 4) (by omega))

/-- A place is set. -/
theorem All.xputPlace {g i : Nat} {ps : List Pl} {p : Pl} {cs : List Comp} {w : World} {n a c k : Int} {s : Value} {l : List ByteArray} (h8 : ps.length = 8) (h : All (ownC 9 s (cellsT l) :: (xrollL g ps ++ cs)) w) (hp : ps[i]? = some p) :
    All (xrollL g (ps.set i ⟨true, n, a, c, k, s, l⟩) ++ cs) ((((((w.setCell ⟨g, i * 5, none⟩ (.int .i64 n)).setCell ⟨g, i * 5 + 1, none⟩ (.int .i64 a)).setCell ⟨g, i * 5 + 2, none⟩ (.int .i64 c)).setCell ⟨g, i * 5 + 3, none⟩ (.int .i64 k)).setCell ⟨g, i * 5 + 4, none⟩ s).setCell ⟨g, 40 + i, none⟩ (.bool true)).drew := by
  have A6 : All (blkC g (flatXP ps) 73 :: (ownC 9 s (cellsT l) :: (ps.map Pl.part ++ cs))) w := by
    refine All.perm ?_ h
    simp only [xrollL, List.cons_append]
    exact List.Perm.swap _ _ _
  have A7 := (((((A6.setBlk (i * 5) (.int .i64 n)).setBlk (i * 5 + 1) (.int .i64 a)).setBlk (i * 5 + 2) (.int .i64 c)).setBlk (i * 5 + 3) (.int .i64 k)).setBlk (i * 5 + 4) s).setBlk (40 + i) (.bool true)
  have eq := flatXP_set (q := ⟨true, n, a, c, k, s, l⟩) h8 hp rfl
  simp only at eq
  rw [eq] at A7
  have A7 := A7.drew
  have A8 := All.setPart (i := i) (L := ps.map Pl.part) (cs := cs) (by simp; exact (List.getElem?_eq_some_iff.1 hp).1) A7.tail
  have h9 : All (blkC g (flatXP (ps.set i ⟨true, n, a, c, k, s, l⟩)) 73 :: ((ps.map Pl.part).set i (ownC 9 s (cellsT l)) ++ cs)) _ := ⟨A7.1, fun d hd => A7.2.1 d (by
    rcases List.mem_append.1 hd with hd | hd
    · rcases List.mem_or_eq_of_mem_set hd with hd | rfl
      · exact List.mem_cons_of_mem _ (List.mem_append_left _ hd)
      · exact List.mem_cons_self
    · exact List.mem_cons_of_mem _ (List.mem_append_right _ hd)), A8⟩
  simp only [xrollL, List.cons_append, List.map_set]
  exact h9

theorem xroll_new {cs : List Comp} {w : World} (h : All cs w) : Calls Try.prog 9 #[] w fun e w' => ∃ g, e = .returned (.pointer (some ⟨g, 0, none⟩)) ∧ All (xrollL g (List.replicate 8 .zero) ++ cs) w' := by
  have HA := hid h
  clear h
  go_enter Try.func9, Try.ntmps9
  go_wp2
  go_ret
  refine ⟨_, rfl, ?_⟩
  have A0 : All ((List.replicate 8 Pl.zero).map Pl.part ++ cs) w := (((((((HA.out.addNil (e := 9)).addNil (e := 9)).addNil (e := 9)).addNil (e := 9)).addNil (e := 9)).addNil (e := 9)).addNil (e := 9)).addNil (e := 9)
  exact A0.addBlk (flatXP (List.replicate 8 .zero)) 73

theorem ReadsW.form {w : World} {s : Value} {l : List UInt8} (h : ReadsW w s l) : ∃ ao c, s = .slice ao l.length c := by
  rcases h with h | ⟨rfl, a, c, rfl⟩
  · exact h.form
  · exact ⟨_, _, rfl⟩
theorem ReadsW.of_ne {w : World} {s : Value} {l : List UInt8} (h : ReadsW w s l) (hl : l ≠ []) : Reads w s l := h.resolve_right (fun h => hl h.1)
/-- Lists that came in: an empty one may have any address. -/
def ListsW (w : World) (s : Value) (ls : List (List UInt8)) : Prop :=
  ∃ ao c, s = .slice ao ls.length c ∧ ∀ j (h : j < ls.length), ∃ g o v, ao = some ⟨g, o, none⟩ ∧ g < w.heap.size ∧ w.cell? ⟨g, o + j, none⟩ = some v ∧ ReadsW w v ls[j]
theorem ListsW.form {w : World} {s : Value} {ls : List (List UInt8)} (h : ListsW w s ls) : ∃ ao c, s = .slice ao ls.length c := by obtain ⟨ao, c, e, _⟩ := h; exact ⟨ao, c, e⟩
theorem ListsW.at {w : World} {ao : Option Addr} {n c : Nat} {ls : List (List UInt8)} (h : ListsW w (.slice ao n c) ls) {j : Nat} (hj : j < ls.length) : ∃ g o v, ao = some ⟨g, o, none⟩ ∧ g < w.heap.size ∧ w.cell? ⟨g, o + j, none⟩ = some v ∧ ReadsW w v ls[j] := by
  obtain ⟨ao', c', e, hx⟩ := h
  simp only [Value.slice.injEq] at e
  obtain ⟨rfl, _, _⟩ := e
  exact hx j hj

set_option maxHeartbeats 1600000 in
set_option maxRecDepth 1000000 in
theorem xload_any {s : Value} {ls : List (List UInt8)} {cs : List Comp} {w : World} (h : All cs w) (hT : ∀ w', All cs w' → ListsW w' s ls) (hlens : ∀ l ∈ ls, l.length ≤ 140737488355328) :
    Calls Try.prog 36 #[s] w fun e w' => (¬ loadOk ls ∧ e = .returned (.tuple #[.pointer none, .int .i64 72]) ∧ All cs w') ∨
      (loadOk ls ∧ ∃ g ps, e = .returned (.tuple #[.pointer (some ⟨g, 0, none⟩), .int .i64 0]) ∧ Upto ls 8 ps ∧ All (xrollL g ps ++ cs) w') := by
  obtain ⟨ao, cp, rfl⟩ := (hT w h).form
  have HA := hid h
  have HT := hid hT
  have HL := hid hlens
  clear h hT hlens
  by_cases h8 : ls.length = 8
  case neg =>
    have e8 : ((ls.length : Int) != 8) = true := by simp; omega
    have F : Hid (¬ loadOk ls) := hid (fun hh => h8 hh.1)
    go_enter Try.func36, Try.ntmps36
    go_wp2
    go_ret2
    exact .inl ⟨F.out, rfl, HA.out⟩
  have H8 := hid h8
  rw [h8]
  clear h8
  go_enter Try.func36, Try.ntmps36
  go_wp2_with fail
  refine (xroll_new HA.out).mono ?_
  rintro e w1 ⟨g, rfl, A1⟩
  have A1 := hid A1
  clear HA
  go_wp2
  go_loopw [5] (fun iv wr => ∃ (k : Nat) (ps : List Pl), iv = .int .i64 (k : Int) ∧ k ≤ 8 ∧ Hid (Upto ls k ps ∧ (∀ i l, i < k → ls[i]? = some l → l = [] ∨ rowOk l = true) ∧ All (xrollL g ps ++ cs) wr)) (fun iv _ => 8 - (intOf iv).toNat)
  case atStart => exact ⟨0, _, rfl, by omega, hid ⟨⟨rfl, fun i p hp => ⟨fun _ => (List.eq_of_mem_replicate (List.mem_of_getElem? hp)), fun h => by omega⟩⟩, fun i l h => by omega, A1.out⟩⟩
  case round =>
    obtain ⟨k, ps, rfl, hk, HI⟩ := hrel
    clear A1
    by_cases hlt : k < 8
    case neg =>
      obtain rfl : k = 8 := by omega
      go_wp2
      go_ret2
      refine .inr ⟨⟨H8.out, fun l hl => ?_⟩, g, ps, rfl, HI.out.1, HI.out.2.2⟩
      obtain ⟨i, hi, rfl⟩ := List.getElem_of_mem hl
      exact HI.out.2.1 i _ (by rw [← H8.out]; exact hi) (List.getElem?_eq_getElem hi)
    have el : decide ((k : Int) < 8) = true := by simp; omega
    have hkl : k < ls.length := by rw [H8.out]; exact hlt
    obtain ⟨l, hl⟩ : ∃ l, Hid (l = ls[k]) := ⟨_, hid rfl⟩
    have HLk : Hid (ls[k]? = some l) := hid (by rw [List.getElem?_eq_getElem hkl, hl.out])
    have HLl : Hid (l.length ≤ 140737488355328) := hid (HL.out l (List.mem_of_getElem? HLk.out))
    have hAcs := HI.out.2.2.sublist (List.sublist_append_right _ _)
    obtain ⟨gl, ol, vl, ea, hgl, hcell, hrd⟩ := (HT.out wr hAcs).at hkl
    rw [← hl.out] at hrd
    obtain ⟨al, cl, rfl⟩ := hrd.form
    subst ea
    have HR := hid hrd
    clear hAcs hrd hl hkl
    by_cases hz : l = []
    · subst hz
      simp only [List.length_nil] at hcell HR
      go_wp2
      go_roundw
      case rel => exact ⟨k + 1, ps, by go_num, by omega, hid ⟨HI.out.1.skip HLk.out, fun i l' hi hl' => by
        rcases Nat.lt_or_ge i k with h1 | h1
        · exact HI.out.2.1 i l' h1 hl'
        · obtain rfl : i = k := by omega
          rw [HLk.out] at hl'
          cases hl'
          exact .inl rfl, HI.out.2.2⟩⟩
      case measure => simp [intOf]; omega
    have HZ := hid hz
    obtain ⟨ll, hll⟩ : ∃ ll, Hid (ll = l.length) := ⟨_, hid rfl⟩
    rw [← hll.out] at hcell HR
    have e0 : ((ll : Int) == 0) = false := by
      have : l.length ≠ 0 := fun h => hz (List.eq_nil_of_length_eq_zero h)
      rw [beq_eq_false_iff_ne, hll.out]; omega
    clear hz
    go_wp2_with fail
    refine (xread_any HI.out.2.2 (HR.out.of_ne HZ.out) HLl.out).mono ?_
    rintro e w2 ⟨so, sc, rfl, A2⟩
    obtain ⟨X, hX⟩ : ∃ X, Hid (X = rowR l) := ⟨_, hid rfl⟩
    rw [← hX.out] at A2 ⊢
    obtain ⟨nl, hnl⟩ : ∃ nl, Hid (nl = X.l.length) := ⟨_, hid rfl⟩
    rw [← hnl.out] at A2 ⊢
    have A3 := hid (A2.addBlk [.int .i64 X.n, .int .i64 X.a, .int .i64 X.c, .int .i64 X.k, .slice so nl sc] 39)
    clear A2
    cases hok : rowOk l with
    | false =>
      have F : Hid (¬ loadOk ls) := hid (fun hh => by
        rcases hh.2 l (List.mem_of_getElem? HLk.out) with h | h
        · exact HZ.out h
        · rw [hok] at h; cases h)
      clear HI HR hok
      go_wp2
      go_ret2
      exact .inl ⟨F.out, rfl, A3.out.sublist (.cons _ (.cons _ (List.sublist_append_right _ _)))⟩
    | true =>
      have HG := hid hok
      clear HR hok
      go_wp2_with fail
      generalize hw3 : w2.alloc (.cells #[.int .i64 X.n, .int .i64 X.a, .int .i64 X.c, .int .i64 X.k, .slice so nl sc] 39) = w3
      rw [show w2.alloc (.cells [.int .i64 X.n, .int .i64 X.a, .int .i64 X.c, .int .i64 X.k, .slice so nl sc].toArray 39) = w3 from hw3] at A3
      clear hw3
      have hk8 : k < ps.length := by rw [HI.out.1.1]; exact hlt
      obtain ⟨p, hp⟩ : ∃ p, ps[k]? = some p := ⟨_, List.getElem?_eq_getElem hk8⟩
      obtain ⟨hg2, hTp⟩ := A3.out.tail.tail.xplace hp
      obtain ⟨c0, c1, c2, c3, c4, c5⟩ := xcells HI.out.1.1 hg2 hp
      obtain ⟨aop, cpp, e5⟩ := hTp.form
      rw [e5] at c5
      have hgl2 : g < w3.heap.size := (Array.getElem?_eq_some_iff.1 hg2).1
      have fz : ∀ j, w3.frozen? ⟨g, j, none⟩ = false := fun j => free_at hg2 j
      have erx : w3.heap[w2.heap.size]? = some (.cells #[.int .i64 X.n, .int .i64 X.a, .int .i64 X.c, .int .i64 X.k, .slice so nl sc] 39 (0, 0)) := A3.out.1.2.1
      have x0 : w3.cell? ⟨w2.heap.size, 0, none⟩ = some (.int .i64 X.n) := by rw [cell_at erx]; rfl
      have x1 : w3.cell? ⟨w2.heap.size, 1, none⟩ = some (.int .i64 X.a) := by rw [cell_at erx]; rfl
      have x2 : w3.cell? ⟨w2.heap.size, 2, none⟩ = some (.int .i64 X.c) := by rw [cell_at erx]; rfl
      have x3 : w3.cell? ⟨w2.heap.size, 3, none⟩ = some (.int .i64 X.k) := by rw [cell_at erx]; rfl
      have x4 : w3.cell? ⟨w2.heap.size, 4, none⟩ = some (.slice so nl sc) := by rw [cell_at erx]; rfl
      have HP := hid hp
      have hkI : (k : Int) < 8 := by omega
      have h40 : ¬ k * 5 = 40 + k := by omega
      have h41 : ¬ k * 5 + 1 = 40 + k := by omega
      have h42 : ¬ k * 5 + 2 = 40 + k := by omega
      have h43 : ¬ k * 5 + 3 = 40 + k := by omega
      have h44 : ¬ k * 5 + 4 = 40 + k := by omega
      have g40 : ¬ 40 + k = k * 5 := by omega
      have g41 : ¬ 40 + k = k * 5 + 1 := by omega
      have g42 : ¬ 40 + k = k * 5 + 2 := by omega
      have g43 : ¬ 40 + k = k * 5 + 3 := by omega
      have g44 : ¬ 40 + k = k * 5 + 4 := by omega
      have PUT := hid (All.xputPlace (n := X.n) (a := X.a) (c := X.c) (k := X.k) (l := X.l) HI.out.1.1 (A3.out.sublist (.cons _ (.refl _))) HP.out)
      clear hp hg2 hTp hk8 erx
      go_region
      clear A3
      go_wp2
      go_roundw
      case rel =>
        refine ⟨k + 1, _, by go_num, by omega, hid ⟨?_, fun i l' hi hl' => ?_, PUT.out⟩⟩
        · rw [hX.out]
          exact HI.out.1.put HLk.out HZ.out HG.out _
        · rcases Nat.lt_or_ge i k with h1 | h1
          · exact HI.out.2.1 i l' h1 hl'
          · obtain rfl : i = k := by omega
            rw [HLk.out] at hl'
            cases hl'
            exact .inr HG.out
      case measure => simp [intOf]; omega

end Go.Proofs.Ytagdpfghooogfaa

namespace Go.Proofs.Ytagdpfghooogfaa
open Go.RowKit
set_option linter.unusedVariables false

theorem res33 {tmps : Array Value} {w : World} {b : Nat} {n a c k : Int} {s : Value} (ht : tmps.getD 2 undef = .pointer (some ⟨b, 0, none⟩)) (h : w.heap[b]? = some (.cells #[.int .i64 n, .int .i64 a, .int .i64 c, .int .i64 k, s] 39 (0, 0))) : (results Try.f33 tmps).run Try.prog w = .ok (rowV n a c k s) w := by
  have hp' : tmps[2]?.getD undef = .pointer (some ⟨b, 0, none⟩) := by simpa using ht
  have hres : Try.f33.results = #[.cell 2 39] := rfl
  have x0 : w.cell? ⟨b, 0, none⟩ = some (.int .i64 n) := by rw [cell_at h]; rfl
  have x1 : w.cell? ⟨b, 1, none⟩ = some (.int .i64 a) := by rw [cell_at h]; rfl
  have x2 : w.cell? ⟨b, 2, none⟩ = some (.int .i64 c) := by rw [cell_at h]; rfl
  have x3 : w.cell? ⟨b, 3, none⟩ = some (.int .i64 k) := by rw [cell_at h]; rfl
  have x4 : w.cell? ⟨b, 4, none⟩ = some s := by rw [cell_at h]; rfl
  simp only [results, hres]
  go_simp

theorem res34 {tmps : Array Value} {w : World} {b : Nat} {n a c k : Int} {s v : Value} (ht : tmps.getD 4 undef = .pointer (some ⟨b, 0, none⟩)) (hv : tmps.getD 5 undef = v) (h : w.heap[b]? = some (.cells #[.int .i64 n, .int .i64 a, .int .i64 c, .int .i64 k, s] 39 (0, 0))) : (results Try.f34 tmps).run Try.prog w = .ok (.tuple #[rowV n a c k s, v]) w := by
  have hp' : tmps[4]?.getD undef = .pointer (some ⟨b, 0, none⟩) := by simpa using ht
  have hv' : tmps[5]?.getD undef = v := by simpa using hv
  have hres : Try.f34.results = #[.cell 4 39, .tmp 5] := rfl
  have x0 : w.cell? ⟨b, 0, none⟩ = some (.int .i64 n) := by rw [cell_at h]; rfl
  have x1 : w.cell? ⟨b, 1, none⟩ = some (.int .i64 a) := by rw [cell_at h]; rfl
  have x2 : w.cell? ⟨b, 2, none⟩ = some (.int .i64 c) := by rw [cell_at h]; rfl
  have x3 : w.cell? ⟨b, 3, none⟩ = some (.int .i64 k) := by rw [cell_at h]; rfl
  have x4 : w.cell? ⟨b, 4, none⟩ = some s := by rw [cell_at h]; rfl
  simp only [results, hres]
  go_simp

set_option maxHeartbeats 1600000 in
set_option maxRecDepth 1000000 in
theorem xcopied_any {cs : List Comp} {w : World} (hA : All cs w) (n a c k : Int) {s : Value} {l : List ByteArray} (h : Txts w s l) (hl : l.length ≤ 1000) : Calls Try.prog 33 #[rowV n a c k s] w fun e w' => ∃ ao c', e = .returned (rowV n a c k (.slice ao l.length c')) ∧ All (ownC 9 (.slice ao l.length c') (cellsT l) :: cs) w' := by
  obtain ⟨ao, cp, rfl⟩ := h.form
  have HT := hid h
  have HA := hid (((hA.addBlk [.int .i64 n, .int .i64 a, .int .i64 c, .int .i64 k, .slice ao l.length cp] 39).addBlk [.int .i64 0, .int .i64 0, .int .i64 0, .int .i64 0, .slice none 0 0] 39))
  simp only [World.size_alloc] at HA
  clear h hA
  obtain ⟨i0, hi, hz0, hz1, hz2⟩ := info_parts Try.info9
  have WE : Hid (∃ W0, W0 = ((w.alloc (.cells #[.int .i64 n, .int .i64 a, .int .i64 c, .int .i64 k, .slice ao l.length cp] 39)).alloc (.cells #[.int .i64 0, .int .i64 0, .int .i64 0, .int .i64 0, .slice none 0 0] 39))) := hid ⟨_, rfl⟩
  obtain ⟨W0, hW0⟩ := WE.out
  have HA0 : Hid (All (blkC (w.heap.size + 1) [.int .i64 0, .int .i64 0, .int .i64 0, .int .i64 0, .slice none 0 0] 39 :: blkC w.heap.size [.int .i64 n, .int .i64 a, .int .i64 c, .int .i64 k, .slice ao l.length cp] 39 :: cs) W0) := hid (by rw [hW0]; exact HA.out)
  have HT0 : Txts W0 (.slice ao l.length cp) l := by rw [hW0]; exact (HT.out.alloc _).alloc _
  have AE := hid (HA0.out.alloc (.cells #[] 9))
  have h0 : (W0.alloc (.cells #[] 9)).ownsRow W0.heap.size 9 1 (.slice (some ⟨W0.heap.size, 0, none⟩) 0 0) 0 [] := World.ownsRow_made W0 #[] 0 (Nat.le_refl _) (by unfold maxLen; omega) rfl
  have erx : W0.heap[w.heap.size]? = some (.cells #[.int .i64 n, .int .i64 a, .int .i64 c, .int .i64 k, .slice ao l.length cp] 39 (0, 0)) := HA0.out.tail.1.2.1
  have x0 : W0.cell? ⟨w.heap.size, 0, none⟩ = some (.int .i64 n) := by rw [cell_at erx]; rfl
  have x1 : W0.cell? ⟨w.heap.size, 1, none⟩ = some (.int .i64 a) := by rw [cell_at erx]; rfl
  have x2 : W0.cell? ⟨w.heap.size, 2, none⟩ = some (.int .i64 c) := by rw [cell_at erx]; rfl
  have x3 : W0.cell? ⟨w.heap.size, 3, none⟩ = some (.int .i64 k) := by rw [cell_at erx]; rfl
  have x4 : W0.cell? ⟨w.heap.size, 4, none⟩ = some (.slice ao l.length cp) := by rw [cell_at erx]; rfl
  have fx4 : W0.frozen? ⟨w.heap.size, 4, none⟩ = false := free_at erx 4
  clear erx
  have lx : w.heap.size < W0.heap.size := World.block_lt_of_cell? W0 _ x0
  go_enter Try.func33, Try.ntmps33
  go_upto_region 1 with fail
  rw [← hW0]
  clear hW0 WE HA HT
  have FIN : Hid (∀ w2 so sc, w2.ownsRow W0.heap.size 9 1 (.slice so l.length sc) l.length (cellsT l) → Below W0.heap.size W0 w2 → w2.cell? ⟨w.heap.size, 0, none⟩ = some (.int .i64 n) ∧ w2.cell? ⟨w.heap.size, 1, none⟩ = some (.int .i64 a) ∧ w2.cell? ⟨w.heap.size, 2, none⟩ = some (.int .i64 c) ∧ w2.cell? ⟨w.heap.size, 3, none⟩ = some (.int .i64 k) ∧ w2.cell? ⟨w.heap.size, 4, none⟩ = some (.slice ao l.length cp) ∧ w2.frozen? ⟨w.heap.size, 4, none⟩ = false ∧ (∀ j, w2.frozen? ⟨w.heap.size + 1, j, none⟩ = false) ∧ w2.cell? ⟨w.heap.size + 1, 0, none⟩ = some (.int .i64 0) ∧ w2.cell? ⟨w.heap.size + 1, 1, none⟩ = some (.int .i64 0) ∧ w2.cell? ⟨w.heap.size + 1, 2, none⟩ = some (.int .i64 0) ∧ w2.cell? ⟨w.heap.size + 1, 3, none⟩ = some (.int .i64 0) ∧ w2.cell? ⟨w.heap.size + 1, 4, none⟩ = some (.slice none 0 0) ∧
      Hid (∀ W, W = ((((((w2.setCell ⟨w.heap.size, 4, none⟩ (.slice so l.length sc)).setCell ⟨w.heap.size + 1, 0, none⟩ (.int .i64 n)).setCell ⟨w.heap.size + 1, 1, none⟩ (.int .i64 a)).setCell ⟨w.heap.size + 1, 2, none⟩ (.int .i64 c)).setCell ⟨w.heap.size + 1, 3, none⟩ (.int .i64 k)).setCell ⟨w.heap.size + 1, 4, none⟩ (.slice so l.length sc)) → W.heap[w.heap.size + 1]? = some (.cells #[.int .i64 n, .int .i64 a, .int .i64 c, .int .i64 k, .slice so l.length sc] 39 (0, 0)) ∧ All (ownC 9 (.slice so l.length sc) (cellsT l) :: cs) W)) := hid (by
    intro w2 so sc hO hB
    have A1 := HA0.out.addOwn hB (by rw [cellsT_length]; exact hO)
    have ex : w2.heap[w.heap.size]? = some (.cells #[.int .i64 n, .int .i64 a, .int .i64 c, .int .i64 k, .slice ao l.length cp] 39 (0, 0)) := A1.tail.tail.1.2.1
    have er : w2.heap[w.heap.size + 1]? = some (.cells #[.int .i64 0, .int .i64 0, .int .i64 0, .int .i64 0, .slice none 0 0] 39 (0, 0)) := A1.tail.1.2.1
    refine ⟨by rw [cell_at ex]; rfl, by rw [cell_at ex]; rfl, by rw [cell_at ex]; rfl, by rw [cell_at ex]; rfl, by rw [cell_at ex]; rfl, free_at ex 4, fun j => free_at er j, by rw [cell_at er]; rfl, by rw [cell_at er]; rfl, by rw [cell_at er]; rfl, by rw [cell_at er]; rfl, by rw [cell_at er]; rfl, ?_⟩
    rintro W rfl
    have A2 := ((((((A1.rev3.setBlk 4 (.slice so l.length sc)).swap.setBlk 0 (.int .i64 n)).setBlk 1 (.int .i64 a)).setBlk 2 (.int .i64 c)).setBlk 3 (.int .i64 k)).setBlk 4 (.slice so l.length sc))
    exact ⟨A2.1.2.1, A2.tail.tail⟩)
  have hx' : (l = [] ∧ ao = none) ∨ ∃ q, ao = some q ∧ ∀ j u, (cellsT l)[j]? = some u → (W0.alloc (.cells #[] 9)).cell? (q.add j) = some u := by
    obtain ⟨ao2, c2, e2, hc, hx⟩ := HT0.alloc (.cells #[] 9)
    simp only [Value.slice.injEq] at e2
    obtain ⟨rfl, _, _⟩ := e2
    rcases hx with rfl | ⟨g, o, rfl, hg, hcell⟩
    · cases ao with
      | none => exact .inl ⟨rfl, rfl⟩
      | some q => exact .inr ⟨q, rfl, fun j u hu => by simp [cellsT] at hu⟩
    · refine .inr ⟨_, rfl, fun j u hu => ?_⟩
      simp only [cellsT, List.getElem?_map] at hu
      obtain ⟨x, hx, rfl⟩ := Option.map_eq_some_iff.1 hu
      obtain ⟨hj, rfl⟩ := List.getElem?_eq_some_iff.1 hx
      rw [Addr.add_lit]
      exact hcell j hj
  have HR0 := HA0
  clear HA0 HT0
  rcases hx' with ⟨rfl, rfl⟩ | ⟨q, rfl, hnews⟩
  · have h00 : (W0.alloc (.cells #[] 9)).ownsRow W0.heap.size 9 1 (.slice (some ⟨W0.heap.size, 0, none⟩) 0 0) 0 (cellsT []) := h0
    simp only [List.length_nil] at x4 ⊢
    clear FIN h00
    have err : W0.heap[w.heap.size + 1]? = some (.cells #[.int .i64 0, .int .i64 0, .int .i64 0, .int .i64 0, .slice none 0 0] 39 (0, 0)) := HR0.out.1.2.1
    have r0 : W0.cell? ⟨w.heap.size + 1, 0, none⟩ = some (.int .i64 0) := by rw [cell_at err]; rfl
    have r1 : W0.cell? ⟨w.heap.size + 1, 1, none⟩ = some (.int .i64 0) := by rw [cell_at err]; rfl
    have r2 : W0.cell? ⟨w.heap.size + 1, 2, none⟩ = some (.int .i64 0) := by rw [cell_at err]; rfl
    have r3 : W0.cell? ⟨w.heap.size + 1, 3, none⟩ = some (.int .i64 0) := by rw [cell_at err]; rfl
    have r4 : W0.cell? ⟨w.heap.size + 1, 4, none⟩ = some (.slice none 0 0) := by rw [cell_at err]; rfl
    have fr0 : W0.frozen? ⟨w.heap.size + 1, 0, none⟩ = false := free_at err 0
    have fr1 : W0.frozen? ⟨w.heap.size + 1, 1, none⟩ = false := free_at err 1
    have fr2 : W0.frozen? ⟨w.heap.size + 1, 2, none⟩ = false := free_at err 2
    have fr3 : W0.frozen? ⟨w.heap.size + 1, 3, none⟩ = false := free_at err 3
    have fr4 : W0.frozen? ⟨w.heap.size + 1, 4, none⟩ = false := free_at err 4
    clear err
    have lr : w.heap.size + 1 < W0.heap.size := World.block_lt_of_cell? W0 _ r0
    go_wp2_with fail
    have A2 := ((((((HR0.out.swap.setBlk 4 (.slice (some ⟨W0.heap.size, 0, none⟩) 0 0)).swap.setBlk 0 (.int .i64 n)).setBlk 1 (.int .i64 a)).setBlk 2 (.int .i64 c)).setBlk 3 (.int .i64 k)).setBlk 4 (.slice (some ⟨W0.heap.size, 0, none⟩) 0 0))
    have hown : ∀ Ws : World, (Ws.alloc (.cells #[] 9)).ownsRow Ws.heap.size 9 1 (.slice (some ⟨Ws.heap.size, 0, none⟩) 0 0) 0 [] := fun Ws => World.ownsRow_made Ws #[] 0 (Nat.le_refl _) (by unfold maxLen; omega) rfl
    have KEY : ∀ (Ws : World) (ds : List Comp), Ws.heap.size = W0.heap.size → All ds Ws → All (ownC 9 (.slice (some ⟨W0.heap.size, 0, none⟩) 0 0) (cellsT []) :: ds) (Ws.alloc (.cells #[] 9)) := fun Ws ds hs hA => hA.addOwn (ba _ _) (by
      have := hown Ws
      rw [hs] at this
      rw [hs]
      exact this)
    have A3 := KEY _ _ (by simp) A2
    clear KEY hown
    refine bodyPost_ret (v := rowV n a c k (.slice (some ⟨W0.heap.size, 0, none⟩) 0 0)) (res33 (b := w.heap.size + 1) rfl A3.tail.1.2.1) rfl ?_
    exact ⟨_, _, rfl, A3.sublist (.cons_cons _ (.cons _ (.cons _ (.refl _))))⟩
  · go_wp2_with (at_builtin; refine wpList_append_own_at _ rfl (.tmp 3) (.tmp 6) 35 rfl W0.heap.size 9 i0 (.string (.mk #[])) 1 16 Try.underlying35 hi hz0 hz1 hz2 rfl (by decide) _ _ _ rfl h0 q l.length cp (cellsT l) rfl (by rw [cellsT_length]; omega) hnews (cellsT_one _) (by unfold maxLen; omega) (by omega) (by simp) ?_)
    intro v' w2 hown hgr _ hat
    have hB : Below W0.heap.size W0 w2 := ((Below.refl _ _).alloc (Nat.le_refl _) _).grown hgr (by simp) (fun k hk => by
      simp [Value.ownBlock] at hk
      omega)
    obtain ⟨so, sc, rfl⟩ := owns_form (by simpa using hown : w2.ownsRow W0.heap.size 9 1 v' l.length (cellsT l))
    obtain ⟨y0, y1, y2, y3, y4, fy, fr, r0, r1, r2, r3, r4, FW⟩ := FIN.out w2 so sc (by simpa using hown) hB
    clear FIN hown hgr hat hB h0 hnews x0 x1 x2 x3 x4 fx4
    go_wp2
    obtain ⟨f1, f2⟩ := FW.out _ rfl
    refine bodyPost_ret (v := rowV n a c k (.slice so l.length sc)) (res33 (b := w.heap.size + 1) rfl f1) rfl ?_
    exact ⟨_, _, rfl, f2⟩
end Go.Proofs.Ytagdpfghooogfaa

namespace Go.Proofs.Ytagdpfghooogfaa
open Go.RowKit
set_option linter.unusedVariables false

theorem set_same {α : Type} {l : List α} {i : Nat} {x : α} (h : l[i]? = some x) : l.set i x = l := by
  apply List.ext_getElem?
  intro j
  rw [List.getElem?_set]
  by_cases e : i = j
  · subst e
    have hi := (List.getElem?_eq_some_iff.1 h).1
    simp [hi]
    exact ((List.getElem?_eq_some_iff.1 h).2).symm
  · simp [e]
theorem rowsX_keep {ps : List Pl} {i : Nat} {p q : Pl} (h : ps[i]? = some p) (hq : q.row5 = p.row5) : rowsX (ps.set i q) = rowsX ps := by
  induction ps generalizing i with
  | nil => simp at h
  | cons r ps ih =>
    cases i with
    | zero =>
      have : r = p := by simpa using h
      subst this
      simp only [rowsX, List.set_cons_zero, List.flatMap_cons, hq]
    | succ i =>
      have := ih (i := i) (by simpa using h)
      simp only [rowsX, List.set_cons_succ, List.flatMap_cons] at this ⊢
      rw [this]
theorem flatXP_on {ps : List Pl} (h8 : ps.length = 8) {i : Nat} {p : Pl} (h : ps[i]? = some p) : (flatXP ps).set (40 + i) (.bool true) = flatXP (ps.set i { p with on := true }) := by
  have hl := rowsX_len ps
  unfold flatXP
  rw [rowsX_keep (q := { p with on := true }) h rfl, List.set_append_right _ _ (by omega), hl, h8, show 40 + i - 5 * 8 = i by omega]
  unfold hasX
  rw [List.map_set]
theorem flatXP_row {ps : List Pl} (h8 : ps.length = 8) {i : Nat} {p q : Pl} (h : ps[i]? = some p) (ho : q.on = p.on) : (((((flatXP ps).set (i * 5) (.int .i64 q.n)).set (i * 5 + 1) (.int .i64 q.a)).set (i * 5 + 2) (.int .i64 q.c)).set (i * 5 + 3) (.int .i64 q.k)).set (i * 5 + 4) q.s = flatXP (ps.set i q) := by
  have hi : i < ps.length := (List.getElem?_eq_some_iff.1 h).1
  have hl := rowsX_len ps
  unfold flatXP
  rw [List.set_append_left _ _ (by omega), List.set_append_left _ _ (by simp; omega), List.set_append_left _ _ (by simp; omega), List.set_append_left _ _ (by simp; omega), List.set_append_left _ _ (by simp; omega), rowsX_set h]
  congr 1
  unfold hasX
  rw [List.map_set]
  exact (set_same (by rw [List.getElem?_map, h, ho]; rfl)).symm

theorem All.xon {g i : Nat} {ps : List Pl} {p : Pl} {cs : List Comp} {w : World} (h8 : ps.length = 8) (h : All (xrollL g ps ++ cs) w) (hp : ps[i]? = some p) : All (xrollL g (ps.set i { p with on := true }) ++ cs) (w.setCell ⟨g, 40 + i, none⟩ (.bool true)) := by
  have A := All.setBlk (g := g) (vs := flatXP ps) (t := 73) (cs := ps.map Pl.part ++ cs) h (40 + i) (.bool true)
  rw [flatXP_on h8 hp] at A
  have e : (ps.set i { p with on := true }).map Pl.part = ps.map Pl.part := by
    rw [List.map_set]
    exact set_same (by rw [List.getElem?_map, hp]; rfl)
  unfold xrollL
  rw [e]
  exact A

theorem All.xrow {g i : Nat} {ps : List Pl} {p : Pl} {cs : List Comp} {w : World} {n a c k : Int} {s : Value} {l : List ByteArray} (h8 : ps.length = 8) (h : All (ownC 9 s (cellsT l) :: (xrollL g ps ++ cs)) w) (hp : ps[i]? = some p) :
    All (xrollL g (ps.set i ⟨p.on, n, a, c, k, s, l⟩) ++ cs) (((((w.setCell ⟨g, i * 5, none⟩ (.int .i64 n)).setCell ⟨g, i * 5 + 1, none⟩ (.int .i64 a)).setCell ⟨g, i * 5 + 2, none⟩ (.int .i64 c)).setCell ⟨g, i * 5 + 3, none⟩ (.int .i64 k)).setCell ⟨g, i * 5 + 4, none⟩ s) := by
  have A6 : All (blkC g (flatXP ps) 73 :: (ownC 9 s (cellsT l) :: (ps.map Pl.part ++ cs))) w := by
    refine All.perm ?_ h
    simp only [xrollL, List.cons_append]
    exact List.Perm.swap _ _ _
  have A7 := ((((A6.setBlk (i * 5) (.int .i64 n)).setBlk (i * 5 + 1) (.int .i64 a)).setBlk (i * 5 + 2) (.int .i64 c)).setBlk (i * 5 + 3) (.int .i64 k)).setBlk (i * 5 + 4) s
  have eq := flatXP_row (q := ⟨p.on, n, a, c, k, s, l⟩) h8 hp rfl
  simp only at eq
  rw [eq] at A7
  have A8 := All.setPart (i := i) (L := ps.map Pl.part) (cs := cs) (by simp; exact (List.getElem?_eq_some_iff.1 hp).1) A7.tail
  have h9 : All (blkC g (flatXP (ps.set i ⟨p.on, n, a, c, k, s, l⟩)) 73 :: ((ps.map Pl.part).set i (ownC 9 s (cellsT l)) ++ cs)) _ := ⟨A7.1, fun d hd => A7.2.1 d (by
    rcases List.mem_append.1 hd with hd | hd
    · rcases List.mem_or_eq_of_mem_set hd with hd | rfl
      · exact List.mem_cons_of_mem _ (List.mem_append_left _ hd)
      · exact List.mem_cons_self
    · exact List.mem_cons_of_mem _ (List.mem_append_right _ hd)), A8⟩
  simp only [xrollL, List.cons_append, List.map_set]
  exact h9

set_option maxHeartbeats 3200000 in
set_option maxRecDepth 1000000 in
theorem xset_any {g : Nat} {cl n a c k : Int} {s : Value} {l : List ByteArray} {ps : List Pl} {cs : List Comp} {w : World} (hA : All (xrollL g ps ++ cs) w) (h8 : ps.length = 8) (hT : ∀ w', All cs w' → Txts w' s l) (hl : l.length ≤ 9223372036854775807) : Calls Try.prog 14 #[.pointer (some ⟨g, 0, none⟩), .int .i64 cl, rowV n a c k s] w fun e w' => e = .returned (.int .i64 (setE ps cl n a c k l)) ∧ ∃ ps', Hid (All (xrollL g ps' ++ cs) w' ∧ ((setE ps cl n a c k l ≠ 0 ∧ ps' = ps) ∨ (setE ps cl n a c k l = 0 ∧ ∃ s', ps' = ps.set cl.toNat ⟨true, n, a, c, k, s', l⟩))) := by
  have hTw := hT w (hA.sublist (List.sublist_append_right _ _))
  obtain ⟨ao, cp, rfl⟩ := hTw.form
  have HT := hid hT
  have HT1 := hid (hTw.alloc (.cells #[.int .i64 n, .int .i64 a, .int .i64 c, .int .i64 k, .slice ao l.length cp] 39))
  have HA1 := hid (hA.addBlk [.int .i64 n, .int .i64 a, .int .i64 c, .int .i64 k, .slice ao l.length cp] 39)
  have H8 := hid h8
  clear hA hT hTw h8
  obtain ⟨S, hS⟩ : ∃ S, Hid (S = setE ps cl n a c k l) := ⟨_, hid rfl⟩
  rw [← hS.out]
  by_cases hc : 0 ≤ cl ∧ cl < 8
  case neg =>
    have E : Hid (S = 70) := hid (by rw [hS.out, setE, if_pos hc])
    by_cases h0 : cl < 0
    · have e0 : decide (cl < 0) = true := by simpa using h0
      clear hc
      go_enter Try.func14, Try.ntmps14
      go_wp2
      go_ret
      exact ⟨by rw [E.out]; rfl, ps, hid ⟨HA1.out.tail, .inl ⟨by rw [E.out]; omega, rfl⟩⟩⟩
    · have e0 : decide (cl < 0) = false := by simpa using h0
      have e1 : decide ((7 : Int) < cl) = true := by simp; omega
      clear hc
      go_enter Try.func14, Try.ntmps14
      go_wp2
      go_ret
      exact ⟨by rw [E.out]; rfl, ps, hid ⟨HA1.out.tail, .inl ⟨by rw [E.out]; omega, rfl⟩⟩⟩
  obtain ⟨i, rfl⟩ : ∃ i : Nat, cl = i := ⟨cl.toNat, by omega⟩
  have hI : (i : Int) < 8 := by omega
  have hi : i < 8 := by omega
  have e0 : decide ((i : Int) < 0) = false := by simp
  have e1 : decide ((7 : Int) < (i : Int)) = false := by simp; omega
  obtain ⟨p, hp⟩ : ∃ p, Hid (ps[i]? = some p) := ⟨_, hid (List.getElem?_eq_getElem (by rw [H8.out]; exact hi))⟩
  have hd : ps.getD (i : Int).toNat .zero = p := by simp [List.getD, hp.out]
  obtain ⟨M, hM⟩ : ∃ M, Hid (M = may n a c k l) := ⟨_, hid rfl⟩
  obtain ⟨O, hO⟩ : ∃ O : Bool, Hid (O = decide (p.on = true ∧ ¬ (p.n < n ∧ p.a < a))) := ⟨_, hid rfl⟩
  have HS : Hid (S = if M = false then 72 else if O = true then 71 else 0) := hid (by
    rw [hS.out, setE, if_neg (by simpa using hc), hd, hM.out, hO.out]
    simp only [decide_eq_true_eq])
  clear hd hc hS
  have C1 := hid (xmay_any n a c k HT1.out hl)
  rw [← hM.out] at C1
  clear HT1
  go_enter Try.func14, Try.ntmps14
  go_wp2_with fail
  refine C1.out.mono ?_
  rintro e w2 ⟨rfl, B2⟩
  have HA2 := hid (HA1.out.later B2)
  clear C1 B2 HA1
  generalize w.heap.size = R at HA2 ⊢
  cases M with
  | false =>
    have E : Hid (S = 72) := hid (by rw [HS.out]; simp)
    go_wp2
    go_ret
    exact ⟨by rw [E.out]; rfl, ps, hid ⟨HA2.out.tail, .inl ⟨by rw [E.out]; omega, rfl⟩⟩⟩
  | true =>
  have hl2 : Hid (l.length ≤ 1000) := hid (by
    have hm' := hM.out
    symm at hm'
    simp only [may, decide_eq_true_eq] at hm'
    have := hm'.2.2.2.2
    unfold chkX at this
    repeat' split at this
    all_goals omega)
  obtain ⟨hg, hTp⟩ := HA2.out.tail.xplace hp.out
  obtain ⟨c0, c1, c2, c3, c4, c5⟩ := xcells H8.out hg hp.out
  have hgl : g < w2.heap.size := (Array.getElem?_eq_some_iff.1 hg).1
  have er : w2.heap[R]? = some (.cells #[.int .i64 n, .int .i64 a, .int .i64 c, .int .i64 k, .slice ao l.length cp] 39 (0, 0)) := HA2.out.1.2.1
  have r0 : w2.cell? ⟨R, 0, none⟩ = some (.int .i64 n) := by rw [cell_at er]; rfl
  have r1 : w2.cell? ⟨R, 1, none⟩ = some (.int .i64 a) := by rw [cell_at er]; rfl
  have hRl : R < w2.heap.size := (Array.getElem?_eq_some_iff.1 er).1
  clear er hTp c3 c4 c5 hg
  go_upto_region 6 with fail
  go_cut [47] (fun v wx => v = .bool O ∧ ∃ q, wx = w2.drewN q)
  case first =>
    cases hon : p.on with
    | false =>
      rw [hon] at c0
      have EO : Hid (O = false) := hid (by rw [hO.out, hon]; simp)
      clear hon
      go_quiet (fail)
      go_wp2_with fail
      go_meet
      exact ⟨by rw [EO.out], _, rfl⟩
    | true =>
      rw [hon] at c0
      by_cases h1 : n ≤ p.n
      · have d1 : decide (n ≤ p.n) = true := by simpa using h1
        have EO : Hid (O = true) := hid (by rw [hO.out, hon]; simp; omega)
        clear hon
        go_quiet (fail)
        go_wp2_with fail
        go_meet
        exact ⟨by rw [EO.out], _, rfl⟩
      · have d1 : decide (n ≤ p.n) = false := by simpa using h1
        by_cases h2 : a ≤ p.a
        · have d2 : decide (a ≤ p.a) = true := by simpa using h2
          have EO : Hid (O = true) := hid (by rw [hO.out, hon]; simp; omega)
          clear hon
          go_quiet (fail)
          go_wp2_with fail
          go_meet
          exact ⟨by rw [EO.out], _, rfl⟩
        · have d2 : decide (a ≤ p.a) = false := by simpa using h2
          have EO : Hid (O = false) := hid (by rw [hO.out, hon]; simp; omega)
          clear hon
          go_quiet (fail)
          go_wp2_with fail
          go_meet
          exact ⟨by rw [EO.out], _, rfl⟩
  case rest =>
  obtain ⟨rfl, q, rfl⟩ := hcut
  have HA3 := hid (HA2.out.drewN q)
  clear HA2 c0 c1 c2 r0 r1 hgl hRl
  generalize w2.drewN q = w3 at HA3 ⊢
  cases O with
  | true =>
    have E : Hid (S = 71) := hid (by rw [HS.out]; simp)
    go_wp2
    go_ret
    exact ⟨by rw [E.out]; rfl, ps, hid ⟨HA3.out.tail, .inl ⟨by rw [E.out]; omega, rfl⟩⟩⟩
  | false =>
  have E : Hid (S = 0) := hid (by rw [HS.out]; simp)
  obtain ⟨hg, hTp⟩ := HA3.out.tail.xplace hp.out
  have c0 := (xcells H8.out hg hp.out).1
  have hgl : g < w3.heap.size := (Array.getElem?_eq_some_iff.1 hg).1
  have f0 : w3.frozen? ⟨g, 40 + i, none⟩ = false := free_at hg _
  obtain ⟨ps2, hps2⟩ : ∃ ps2, Hid (ps2 = ps.set i { p with on := true }) := ⟨_, hid rfl⟩
  have HA4 := hid ((HA3.out.perm List.perm_middle.symm).xon H8.out hp.out)
  rw [← hps2.out] at HA4
  have hp2 : Hid (ps2[i]? = some { p with on := true }) := hid (by rw [hps2.out, List.getElem?_set]; simp [H8.out, hi])
  have H82 : Hid (ps2.length = 8) := hid (by rw [hps2.out, List.length_set]; exact H8.out)
  clear HA3 hg hTp
  go_upto_region 9 with fail
  clear c0 f0 hgl
  generalize w3.setCell ⟨g, 40 + i, none⟩ (.bool true) = w4 at HA4 ⊢
  have FIN : Hid (∀ W, All (xrollL g ps2 ++ (blkC R [.int .i64 n, .int .i64 a, .int .i64 c, .int .i64 k, .slice ao l.length cp] 39 :: cs)) W → Calls Try.prog 33 #[rowV n a c k (.slice ao l.length cp)] W fun e w5 => ∃ ao' c' aop cpp mp, e = .returned (rowV n a c k (.slice ao' l.length c')) ∧ g < w5.heap.size ∧ w5.cell? ⟨g, i * 5, none⟩ = some (.int .i64 p.n) ∧ w5.cell? ⟨g, i * 5 + 1, none⟩ = some (.int .i64 p.a) ∧ w5.cell? ⟨g, i * 5 + 2, none⟩ = some (.int .i64 p.c) ∧ w5.cell? ⟨g, i * 5 + 3, none⟩ = some (.int .i64 p.k) ∧ w5.cell? ⟨g, i * 5 + 4, none⟩ = some (.slice aop mp cpp) ∧ (∀ j, w5.frozen? ⟨g, j, none⟩ = false) ∧
      Hid (All (xrollL g (ps.set i ⟨true, n, a, c, k, .slice ao' l.length c', l⟩) ++ cs) (((((w5.setCell ⟨g, i * 5, none⟩ (.int .i64 n)).setCell ⟨g, i * 5 + 1, none⟩ (.int .i64 a)).setCell ⟨g, i * 5 + 2, none⟩ (.int .i64 c)).setCell ⟨g, i * 5 + 3, none⟩ (.int .i64 k)).setCell ⟨g, i * 5 + 4, none⟩ (.slice ao' l.length c')))) := hid (by
    intro W hW
    refine (xcopied_any hW n a c k (HT.out W (hW.sublist (List.Sublist.trans (.cons _ (.refl _)) (List.sublist_append_right _ _)))) hl2.out).mono ?_
    rintro e w5 ⟨ao', c', rfl, A5⟩
    obtain ⟨hg, hTp⟩ := A5.tail.xplace hp2.out
    obtain ⟨c0, c1, c2, c3, c4, c5⟩ := xcells H82.out hg hp2.out
    obtain ⟨aop, cpp, e5⟩ := hTp.form
    rw [e5] at c5
    refine ⟨ao', c', aop, cpp, _, rfl, (Array.getElem?_eq_some_iff.1 hg).1, c1, c2, c3, c4, c5, fun j => free_at hg j, hid ?_⟩
    have A6 := A5.xrow (n := n) (a := a) (c := c) (k := k) H82.out hp2.out
    rw [hps2.out, List.set_set] at A6
    exact A6.sublist (List.Sublist.append_left (.cons _ (.refl _)) _))
  have C3 := hid (FIN.out w4.drew HA4.out.drew)
  obtain ⟨hg, hTp⟩ := HA4.out.xplace hp2.out
  have hgl : g < w4.heap.size := (Array.getElem?_eq_some_iff.1 hg).1
  have er : w4.heap[R]? = some (.cells #[.int .i64 n, .int .i64 a, .int .i64 c, .int .i64 k, .slice ao l.length cp] 39 (0, 0)) := HA4.out.blk (by simp)
  have hRl : R < w4.heap.size := (Array.getElem?_eq_some_iff.1 er).1
  have r0 : w4.cell? ⟨R, 0, none⟩ = some (.int .i64 n) := by rw [cell_at er]; rfl
  have r1 : w4.cell? ⟨R, 1, none⟩ = some (.int .i64 a) := by rw [cell_at er]; rfl
  have r2 : w4.cell? ⟨R, 2, none⟩ = some (.int .i64 c) := by rw [cell_at er]; rfl
  have r3 : w4.cell? ⟨R, 3, none⟩ = some (.int .i64 k) := by rw [cell_at er]; rfl
  have r4 : w4.cell? ⟨R, 4, none⟩ = some (.slice ao l.length cp) := by rw [cell_at er]; rfl
  clear er FIN HA4 hg hTp
  all_goals go_region_law (go_simp; go_at_call 33; refine C3.out.mono ?_; rintro e w5 ⟨ao', c', aop, cpp, mp, rfl, hgl5, c1, c2, c3, c4, c5, cf, H5⟩)
  all_goals clear C3 c1 c2 c3 c4 c5 cf
  all_goals (go_wp2; go_ret; exact ⟨by rw [E.out]; rfl, _, hid ⟨H5.out, .inr ⟨E.out, .slice ao' l.length c', by simp⟩⟩⟩)

end Go.Proofs.Ytagdpfghooogfaa
