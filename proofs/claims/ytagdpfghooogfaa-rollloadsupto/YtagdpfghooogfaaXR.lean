import Derived.Test.YtagdpfghooogfaaSmall
namespace Go.Proofs.Ytagdpfghooogfaa
open Go.RowKit
set_option linter.unusedVariables false

/-- The document's reader. -/
structure XR (w : World) (b : Nat) (v : Value) (B : List UInt8) (at_ : Nat) (e : Int) : Prop where
  box : w.heap[b]? = some (.cells #[v, .int .i64 (at_ : Int), .int .i64 e] 122 (0, 0))
  row : w.ownsRow 0 5 1 v B.length (cellsB B)
  apart : v.ownBlock ≠ some b
  le : at_ ≤ B.length

/-- What it has left. -/
def rsX (B : List UInt8) (at_ : Nat) (e : Int) : List UInt8 := if e = 0 then B.drop at_ else []

theorem XR.form {w : World} {b : Nat} {v : Value} {B : List UInt8} {at_ : Nat} {e : Int} (h : XR w b v B at_ e) : ∃ ao c, v = .slice ao B.length c := owns_form h.row

theorem XR.byte {w : World} {b : Nat} {ao : Option Addr} {n c : Nat} {B : List UInt8} {at_ : Nat} {e : Int} (h : XR w b (.slice ao n c) B at_ e) (k : Nat) (hk : at_ + k < B.length) : ∃ g, ao = some ⟨g, 0, none⟩ ∧ w.cell? ⟨g, at_ + k, none⟩ = some (.int .u8 (((B.drop at_).getD k 0).toNat : Int)) := by
  have hr := h.row
  have hc := fun g => World.ownsRow.cells hr (g := g)
  rcases hr.2 with ⟨e, e0⟩ | ⟨g, cap, _, ev, _⟩
  · omega
  · simp only [Value.slice.injEq] at ev
    refine ⟨g, ev.1, ?_⟩
    have e1 : (B.drop at_).getD k 0 = B[at_ + k] := by
      rw [List.getD_eq_getElem?_getD, List.getElem?_drop, List.getElem?_eq_getElem hk]
      rfl
    rw [e1]
    have := hc g (by rw [ev.1]; rfl) (at_ + k) (.int .u8 ((B[at_ + k]).toNat : Int)) (by simp [cellsB, hk])
    simpa [Addr.add_lit] using this

theorem xor_form (acc x k most top : Nat) (hx : x < 256) (h : acc < 128 ^ k) (hk : k < most) (hm : most ≤ 10) (ht2 : most = 10 → top ≤ 1) (hw : ¬ (k + 1 = most ∧ top < x)) :
    bits BinOp.or IntKind.u64 (acc : Int) (IntKind.u64.wrap ((x : Int) % 128 * 2 ^ (7 * k))) = ((acc + x % 128 * 128 ^ k : Nat) : Int) := by
  have ha := acc_lt acc x k most top h hk hm ht2 hw
  have e3 : (x : Int) % 128 * 2 ^ (7 * k) = ((x % 128 * 128 ^ k : Nat) : Int) := by
    have : (2 : Nat) ^ (7 * k) = 128 ^ k := by rw [Nat.pow_mul]
    rw [← this]
    push_cast
    rfl
  have e4 : IntKind.u64.wrap ((x % 128 * 128 ^ k : Nat) : Int) = ((x % 128 * 128 ^ k : Nat) : Int) := by rw [IntKind.wrap_u64]; omega
  rw [e3, e4, u64_or_nat _ _ (by omega) ha.2.2, or_add _ _ _ h]

set_option maxHeartbeats 3200000 in
set_option maxRecDepth 1000000 in
theorem xlook_any {w : World} {b : Nat} {v : Value} {B : List UInt8} {at_ : Nat} {e : Int} (h : XR w b v B at_ e) (most top : Nat) (lI tI : Int) (hlI : lI = (most : Int) - 1) (htI : tI = (top : Int)) (hm0 : 2 ≤ most) (hm1 : most ≤ 10) (ht1 : top < 128) (ht2 : most = 10 → top ≤ 1) (hlen : B.length ≤ 140737488355328) :
    Calls Try.prog 73 #[.pointer (some ⟨b, 0, none⟩), .int .i64 lI, .int .u8 tI] w fun e w' => e = .returned (.tuple #[.int .u64 ((look most top 0 (B.drop at_) 0).1 : Int), .int .i64 ((look most top 0 (B.drop at_) 0).2.1 : Int), .int .i64 ((look most top 0 (B.drop at_) 0).2.2 : Int)]) ∧ ∃ q, w' = w.drewN q := by
  subst htI
  obtain ⟨last, rfl⟩ : ∃ last, most = last + 1 := ⟨most - 1, by omega⟩
  have hlI' : lI = (last : Int) := by omega
  subst hlI'
  obtain ⟨ao, c, hf⟩ := h.form
  subst hf
  have HR := hid h
  have c0 : w.cell? ⟨b, 0, none⟩ = some (.slice ao B.length c) := by rw [cell_at h.box]; rfl
  have c1 : w.cell? ⟨b, 1, none⟩ = some (.int .i64 (at_ : Int)) := by rw [cell_at h.box]; rfl
  have hle := h.le
  have HT2 := hid ht2
  clear h ht2 hlI
  go_enter Try.func73, Try.ntmps73
  go_wp2
  go_loopw [9, 10] (fun nv iv wr => ∃ (k acc q : Nat), at_ + k ≤ B.length ∧ k ≤ last ∧ iv = .int .i64 (k : Int) ∧ nv = .int .u64 (acc : Int) ∧ acc < 128 ^ k ∧ wr = w.drewN q ∧ Hid (look (last + 1) top k ((B.drop at_).drop k) acc = look (last + 1) top 0 (B.drop at_) 0)) (fun _ iv _ => last + 1 - (intOf iv).toNat)
  case atStart => exact ⟨0, 0, 0, by omega, by omega, rfl, rfl, by simp, rfl, rfl⟩
  case round =>
    obtain ⟨k, acc, q, hk, hkm, rfl, rfl, hacc, rfl, hlook⟩ := hrel
    by_cases hlt : at_ + k < B.length
    · obtain ⟨g, rfl, hcell⟩ := HR.out.byte k hlt
      have hdl : k < (B.drop at_).length := by rw [List.length_drop]; omega
      have HL := look_at (last + 1) top k acc (B.drop at_) hdl
      rw [hlook.out] at HL
      have hx : ((B.drop at_).getD k 0).toNat < 256 := ((B.drop at_).getD k 0).toNat_lt
      obtain ⟨x, hxe⟩ : ∃ x : Nat, x = ((B.drop at_).getD k 0).toNat := ⟨_, rfl⟩
      rw [← hxe] at HL hcell hx
      have HLL := hid HL
      have HA := hid hacc
      clear hlook HL hacc hxe hdl
      have hg1 : ¬ ((B.length : Int) ≤ (at_ : Int) + (k : Int)) := by omega
      have hg2 : (at_ : Int) + (k : Int) < (B.length : Int) := by omega
      go_wp2
      go_region
      go_wp2
      go_region
      clear hcell c0 c1 hg1 hg2
      by_cases hA : k + 1 = last + 1 ∧ top < x
      · have hb : ((k : Int) == (last : Int)) = true := by simp; omega
        have hgt : (top : Int) < (x : Int) := by omega
        have F := HLL.out
        rw [if_pos hA] at F
        have FF := hid F
        clear F hA HLL
        go_wp2
        go_ret3
        exact ⟨by rw [FF.out]; rfl, _, rfl⟩
      · have F := HLL.out
        rw [if_neg hA] at F
        have OF := hid (xor_form acc x k (last + 1) top hx HA.out (by omega) hm1 HT2.out hA)
        have AL := hid (acc_lt acc x k (last + 1) top HA.out (by omega) hm1 HT2.out hA)
        by_cases hB : 128 ≤ x
        · have hne : k + 1 ≠ last + 1 := fun e => hA ⟨e, by omega⟩
          have hb : ((k : Int) == (last : Int)) = false := by simp; omega
          have hh : decide ((x : Int) < 128) = false := by simp; omega
          rw [if_pos hB] at F
          have FF := hid F
          clear F hA HLL
          go_wp2
          go_roundw
          case rel => exact ⟨k + 1, _, _, by omega, by omega, by go_num, congrArg (Value.int .u64) OF.out, AL.out.2.1 (by omega), rfl, FF.out.symm⟩
          case measure => simp [intOf]; omega
        · have hh : (x : Int) < 128 := by omega
          rw [if_neg hB] at F
          by_cases hC : x = 0 ∧ 0 < k
          · rw [if_pos hC] at F
            have FF := hid F
            clear F HLL OF AL
            obtain ⟨rfl, hk0⟩ := hC
            by_cases hne : k = last
            · have hb : ((k : Int) == (last : Int)) = true := by simp; omega
              clear hne hA
              go_wp2
              go_ret3
              exact ⟨by rw [FF.out]; rfl, _, rfl⟩
            · have hb : ((k : Int) == (last : Int)) = false := by simp; omega
              clear hne hA
              go_wp2
              go_ret3
              exact ⟨by rw [FF.out]; rfl, _, rfl⟩
          · rw [if_neg hC] at F
            have FF := hid F
            have HC := hid hC
            have HAA := hid hA
            clear F hA HLL hC
            have fin : ∀ w' : World, (∃ q', w' = w.drewN q') → (Ending.returned (.tuple #[.int .u64 (bits BinOp.or IntKind.u64 (acc : Int) (IntKind.u64.wrap ((x : Int) % 128 * 2 ^ (7 * k)))), .int .i64 ((k : Int) + 1), .int .i64 0]) = .returned (.tuple #[.int .u64 ((look (last + 1) top 0 (B.drop at_) 0).1 : Int), .int .i64 ((look (last + 1) top 0 (B.drop at_) 0).2.1 : Int), .int .i64 ((look (last + 1) top 0 (B.drop at_) 0).2.2 : Int)]) ∧ ∃ q', w' = w.drewN q') := by
              intro w' hw'
              refine ⟨?_, hw'⟩
              rw [FF.out, OF.out]
              rfl
            have FIN := hid fin
            clear fin
            by_cases hx0 : x = 0
            · have hk0 : k = 0 := by
                by_cases h : k = 0
                · exact h
                · exact absurd ⟨hx0, by omega⟩ HC.out
              have hb2 : ((x : Int) == 0) = true := by simp; omega
              have hb3 : ((k : Int) == (last : Int)) = false := by simp; omega
              have hb4 : decide (0 < (k : Int)) = false := by simp; omega
              have hb5 : decide (0 < k) = false := by simp; omega
              clear hx0 hk0
              go_wp2
              go_ret3
              exact FIN.out _ ⟨_, rfl⟩
            · have hb2 : ((x : Int) == 0) = false := by simp; omega
              by_cases hne : k = last
              · have hb : ((k : Int) == (last : Int)) = true := by simp; omega
                have hle2 : decide ((top : Int) < (x : Int)) = false := by
                  have : ¬ top < x := fun h => HAA.out ⟨by omega, h⟩
                  simp; omega
                have hle3 : decide (top < x) = false := by simpa using hle2
                clear hne hx0
                go_wp2
                go_ret3
                exact FIN.out _ ⟨_, rfl⟩
              · have hb : ((k : Int) == (last : Int)) = false := by simp; omega
                clear hne hx0
                go_wp2
                go_ret3
                exact FIN.out _ ⟨_, rfl⟩
    · have hg1 : (B.length : Int) ≤ (at_ : Int) + (k : Int) := by omega
      have F := hlook.out
      rw [List.drop_drop, List.drop_eq_nil_of_le (by omega), look] at F
      have FF := hid F.symm
      clear F hlook
      go_wp2
      go_region
      go_wp2
      go_ret3
      exact ⟨by rw [FF.out]; rfl, _, rfl⟩

end Go.Proofs.Ytagdpfghooogfaa
