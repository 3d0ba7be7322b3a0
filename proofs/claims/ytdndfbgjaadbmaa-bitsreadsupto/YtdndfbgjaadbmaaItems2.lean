import Derived.Test.YtdndfbgjaadbmaaItems
namespace Go.Proofs.Ytdndfbgjaadbmaa
open Go.RowKit
set_option linter.unusedVariables false

theorem unfold_odd (n : Nat) (hn : n < 18446744073709551616) (h0 : n % 2 = 1) : wrap64 (bits BinOp.xor IntKind.u64 IntKind.u64.max ((n : Int) / 2)) = unfoldN n := by
  have e0 : IntKind.u64.max = 18446744073709551615 := by decide
  rw [e0, u64_xor _ _ (by omega) (by omega) (by omega) (by omega)]
  have e1 : (18446744073709551615 : Int).toNat = 2 ^ 64 - 1 := by decide
  have e2 : ((n : Int) / 2).toNat < 2 ^ 64 := by omega
  rw [e1, xor_ones _ e2]
  unfold unfoldN wrap64
  rw [if_pos h0]
  omega

set_option maxHeartbeats 800000 in
set_option maxRecDepth 1000000 in
theorem unfold_any (n : Nat) (w : World) (hn : n < 18446744073709551616) :
    Calls Try.prog 64 #[.int .u64 (n : Int)] w fun e w' => e = .returned (.int .i64 (unfoldN n)) ∧ w' = w := by
  have hs : IntKind.u64.signed = false := rfl
  have ha : bits BinOp.and IntKind.u64 (n : Int) 1 = ((n % 2 : Nat) : Int) := by
    have := u64_and_nat n 1 hn (by omega)
    rw [and1] at this
    exact this
  by_cases h0 : n % 2 = 1
  · have hb : (bits BinOp.and IntKind.u64 (n : Int) 1 == 1) = true := by rw [ha, h0]; rfl
    clear ha
    have HF : Hid _ := unfold_odd n hn h0
    go_enter Try.func64, Try.ntmps64
    go_wp2
    go_ret
    exact ⟨ret_int HF.out, rfl⟩
  · have hb : (bits BinOp.and IntKind.u64 (n : Int) 1 == 1) = false := by
      rw [ha]
      have : n % 2 = 0 := by omega
      rw [this]; rfl
    clear ha
    go_enter Try.func64, Try.ntmps64
    go_wp2
    go_ret
    exact ⟨ret_int (by unfold unfoldN; rw [if_neg h0]; omega), rfl⟩

set_option maxHeartbeats 1600000 in
set_option maxRecDepth 1000000 in
theorem truth_item {w : World} {t : Nat} {rv : Value} {rs : List UInt8} (hI : Item w t rv 0 0) (hr : Reads w rv rs) (hne : rv.ownBlock ≠ some t) :
    Calls Try.prog 69 #[.pointer (some ⟨t, 0, none⟩)] w fun e w' => e = .returned (.bool (truthR rs).1) ∧ Item w' t rv ((truthR rs).2.1 : Int) (truthR rs).2.2 ∧ Only t w w' := by
  obtain ⟨ao, c, hf⟩ := hr.form
  subst hf
  have HI : Hid (Item w t (.slice ao rs.length c) 0 0) := hI
  have c0 : w.cell? ⟨t, 0, none⟩ = some (.slice ao rs.length c) := by rw [cell_at hI]; rfl
  have c1 : w.cell? ⟨t, 1, none⟩ = some (.int .i64 0) := by rw [cell_at hI]; rfl
  have c2 : w.cell? ⟨t, 2, none⟩ = some (.int .i64 0) := by rw [cell_at hI]; rfl
  have f1 := free_at hI 1
  have f2 := free_at hI 2
  cases rs with
  | nil =>
    clear hr hI hne
    go_enter Try.func69, Try.ntmps69
    go_wp2
    go_ret
    exact ⟨rfl, item_err HI.out 10⟩
  | cons x r =>
    obtain ⟨g, o, rfl, hcell⟩ := hr.at 0 (by simp)
    have e1 : truthR (x :: r) = if 1 < x.toNat then (false, 0, 12) else (x.toNat == 1, 1, 0) := rfl
    simp only [List.getD_cons_zero, Nat.add_zero] at hcell
    have hgt : (⟨t, 1, none⟩ : Addr) ≠ ⟨g, o, none⟩ := by
      intro e
      simp only [Addr.mk.injEq] at e
      exact hne (by simp [Value.ownBlock, e.1])
    rw [e1]
    generalize x.toNat = y at hcell
    clear hr hI e1 hne
    by_cases hy : 1 < y
    · rw [if_pos hy]
      go_enter Try.func69, Try.ntmps69
      go_wp2
      go_ret
      exact ⟨rfl, item_err HI.out 12⟩
    · rw [if_neg hy]
      go_enter Try.func69, Try.ntmps69
      go_wp2
      go_ret
      exact ⟨congrArg (fun b => Ending.returned (Value.bool b)) (by rcases (show y = 0 ∨ y = 1 by omega) with e | e <;> subst e <;> rfl), item_size HI.out 1⟩

/-- What Signed reads. -/
def signedR (rs : List UInt8) : Int × Nat × Int := (unfoldN (look 10 1 0 rs 0).1, (look 10 1 0 rs 0).2.1, (look 10 1 0 rs 0).2.2)

theorem signedR_size (rs : List UInt8) : (signedR rs).2.1 ≤ rs.length := by
  have h := (look_bound 10 1 (by omega) (by omega) (by omega) rs 0 0 (by omega) (by simp)).2.2.1
  unfold signedR
  simp only
  omega

set_option maxHeartbeats 1600000 in
set_option maxRecDepth 1000000 in
theorem Signed_any {w : World} {b : Nat} {D : Option Nat} {rv : Value} {rs : List UInt8} {place : Nat} {err : Int} (h : Rd w b D rv rs place err) (hp : place + rs.length ≤ 140737488355328) :
    Calls Try.prog 37 #[.pointer (some ⟨b, 0, none⟩)] w fun e w' => e = .returned (.int .i64 (signedR rs).1) ∧ (∃ rv', Rd w' b D rv' (aft rs place err (signedR rs).2.1 (signedR rs).2.2).1 (aft rs place err (signedR rs).2.1 (signedR rs).2.2).2.1 (aft rs place err (signedR rs).2.1 (signedR rs).2.2).2.2) ∧ Only b w w' := by
  have HH : Hid _ := h
  have hlt := h.lt
  have hbd := (look_bound 10 1 (by omega) (by omega) (by omega) rs 0 0 (by omega) (by simp)).1
  clear h
  go_enter_defers Try.func37, Try.ntmps37
  go_wp2_with fail
  refine (begin_any HH.out).mono ?_
  rintro e w1 ⟨rfl, h1, h2, h3⟩
  have H1 : Hid _ := h1
  have H2 : Hid _ := h2
  clear h1 h2
  go_wp2_with fail
  refine (groups_item H1.out (HH.out.below H2.out).reads 10 1 10 1 rfl rfl (by omega) (by omega) (by omega) (by omega) (by omega)).mono ?_
  rintro e w2 ⟨rfl, h1, h4⟩
  have H3 : Hid _ := h1
  have H4 : Hid _ := h4
  clear h1 h4
  go_wp2_with fail
  refine (unfold_any _ _ hbd).mono ?_
  rintro e w3 ⟨rfl, rfl⟩
  go_wp2
  refine leaves_cons (f := 57) (args := #[.pointer (some ⟨b, 0, none⟩), .pointer (some ⟨w.heap.size, 0, none⟩)]) (by simp) (by simp [go_sem]) ?_
  have hne : rv.ownBlock ≠ some w.heap.size := fun e => by have := HH.out.reads.block _ e; omega
  refine (end_any .returning ((HH.out.below H2.out).only H4.out (by omega) hne) H3.out (by omega) (fun _ => signedR_size _) hp).mono ?_
  rintro e u' w4 ⟨rfl, rfl, h5, h6⟩
  refine ⟨_, results_tmp rfl _ _ _, rfl, h5, ?_⟩
  exact (Only.below (Only.after H2.out H4.out (Nat.le_refl _))).trans h6

set_option maxHeartbeats 1600000 in
set_option maxRecDepth 1000000 in
theorem Bool_any {w : World} {b : Nat} {D : Option Nat} {rv : Value} {rs : List UInt8} {place : Nat} {err : Int} (h : Rd w b D rv rs place err) (hp : place + rs.length ≤ 140737488355328) :
    Calls Try.prog 49 #[.pointer (some ⟨b, 0, none⟩)] w fun e w' => e = .returned (.bool (truthR rs).1) ∧ (∃ rv', Rd w' b D rv' (aft rs place err (truthR rs).2.1 (truthR rs).2.2).1 (aft rs place err (truthR rs).2.1 (truthR rs).2.2).2.1 (aft rs place err (truthR rs).2.1 (truthR rs).2.2).2.2) ∧ Only b w w' := by
  have HH : Hid _ := h
  have hlt := h.lt
  clear h
  go_enter_defers Try.func49, Try.ntmps49
  go_wp2_with fail
  refine (begin_any HH.out).mono ?_
  rintro e w1 ⟨rfl, h1, h2, h3⟩
  have H1 : Hid _ := h1
  have H2 : Hid _ := h2
  have hne : rv.ownBlock ≠ some w.heap.size := fun e => by have := HH.out.reads.block _ e; omega
  have HN : Hid _ := hne
  clear h1 h2 hne
  go_wp2_with fail
  refine (truth_item H1.out (HH.out.below H2.out).reads HN.out).mono ?_
  rintro e w2 ⟨rfl, h1, h4⟩
  have H3 : Hid _ := h1
  have H4 : Hid _ := h4
  clear h1 h4
  go_wp2
  refine leaves_cons (f := 57) (args := #[.pointer (some ⟨b, 0, none⟩), .pointer (some ⟨w.heap.size, 0, none⟩)]) (by simp) (by simp [go_sem]) ?_
  refine (end_any .returning ((HH.out.below H2.out).only H4.out (by omega) HN.out) H3.out (by omega) (truthR_size _) hp).mono ?_
  rintro e u' w3 ⟨rfl, rfl, h5, h6⟩
  refine ⟨_, results_tmp rfl _ _ _, rfl, h5, ?_⟩
  exact (Only.below (Only.after H2.out H4.out (Nat.le_refl _))).trans h6

set_option maxHeartbeats 800000 in
set_option maxRecDepth 1000000 in
theorem Err_any {w : World} {b : Nat} {D : Option Nat} {rv : Value} {rs : List UInt8} {place : Nat} {err : Int} (h : Rd w b D rv rs place err) :
    Calls Try.prog 24 #[.pointer (some ⟨b, 0, none⟩)] w fun e w' => e = .returned (.tuple #[.int .i64 err, .int .i64 (place : Int)]) ∧ Below w.heap.size w w' := by
  have c1 : w.cell? ⟨b, 1, none⟩ = some (.int .i64 (place : Int)) := by rw [cell_at h.box]; rfl
  have c2 : w.cell? ⟨b, 2, none⟩ = some (.int .i64 err) := by rw [cell_at h.box]; rfl
  clear h
  go_enter Try.func24, Try.ntmps24
  go_wp2
  go_region
  go_wp2
  go_ret2
  exact ⟨rfl, (Below.refl _ _).drew⟩

set_option maxHeartbeats 800000 in
set_option maxRecDepth 1000000 in
theorem Close_any {w : World} {b : Nat} {D : Option Nat} {rv : Value} {rs : List UInt8} {place : Nat} {err : Int} (h : Rd w b D rv rs place err) :
    Calls Try.prog 31 #[.pointer (some ⟨b, 0, none⟩)] w fun e w' => e = .returned (.int .i64 (if rs = [] then err else keepE err 15)) ∧ (∃ rv', Rd w' b D rv' [] place (if rs = [] then err else keepE err 15)) ∧ Only b w w' := by
  obtain ⟨ao, c, hf⟩ := h.reads.form
  subst hf
  have c0 : w.cell? ⟨b, 0, none⟩ = some (.slice ao rs.length c) := by rw [cell_at h.box]; rfl
  have c2 : w.cell? ⟨b, 2, none⟩ = some (.int .i64 err) := by rw [cell_at h.box]; rfl
  have HH : Hid _ := h
  clear h
  by_cases hrs : rs = []
  · subst hrs
    rw [if_pos rfl]
    go_enter Try.func31, Try.ntmps31
    go_wp2
    go_ret
    exact ⟨rfl, ⟨_, HH.out⟩, Only.refl _ _⟩
  · rw [if_neg hrs]
    have hl : 0 < rs.length := List.length_pos_iff.2 hrs
    clear hrs
    go_enter Try.func31, Try.ntmps31
    go_wp2_with fail
    refine (rfail_any HH.out 15 (by omega)).mono ?_
    rintro e w1 ⟨rfl, ⟨rv', h1⟩, h2⟩
    have H1 : Hid _ := h1
    have H2 : Hid _ := h2
    have d2 : w1.cell? ⟨b, 2, none⟩ = some (.int .i64 (keepE err 15)) := by rw [cell_at h1.box]; rfl
    clear h1 h2
    go_wp2
    go_ret
    exact ⟨rfl, ⟨_, H1.out⟩, H2.out⟩

set_option maxHeartbeats 800000 in
set_option maxRecDepth 1000000 in
theorem NewWriter_any (w : World) :
    Calls Try.prog 10 #[] w fun e w' => e = .returned (.pointer (some ⟨w.heap.size, 0, none⟩)) ∧ Wst w' w.heap.size (.slice none 0 0) (some []) ∧ Below w.heap.size w w' := by
  go_enter Try.func10, Try.ntmps10
  go_wp2
  go_ret
  exact ⟨rfl, ⟨alloc_new_at _ _, World.ownsRow_nil _ _ _ _⟩, (Below.refl _ _).alloc (Nat.le_refl _) _⟩

set_option maxHeartbeats 800000 in
set_option maxRecDepth 1000000 in
theorem NewReader_any {w : World} {s : Value} {l : List UInt8} (h : Reads w s l) (hlen : l.length ≤ 140737488355328) :
    Calls Try.prog 20 #[s] w fun e w' => ∃ b D rv, e = .returned (.pointer (some ⟨b, 0, none⟩)) ∧ Rd w' b D rv l 0 0 ∧ Below w.heap.size w w' ∧ w.heap.size ≤ b ∧ ∀ k, D = some k → w.heap.size ≤ k ∧ k < w'.heap.size := by
  have HH : Hid _ := h
  obtain ⟨ao, c, hf⟩ := h.form
  subst hf
  clear h
  go_enter Try.func20, Try.ntmps20
  go_wp2_with fail
  refine (clone_any HH.out hlen).mono ?_
  rintro e w1 ⟨s', rfl, h1, h2⟩
  obtain ⟨ao', c', hf⟩ := owns_form h1
  subst hf
  have H1 : Hid _ := h1
  have H2 : Hid _ := h2
  clear h1 h2
  go_wp2
  go_ret
  refine ⟨w1.heap.size, (Value.slice ao' l.length c').ownBlock, _, rfl, ⟨alloc_new_at _ _, (Reads.of_owns H1.out).below ((Below.refl _ _).alloc (Nat.le_refl _) _), fun k hk => hk, ?_, fun e => absurd rfl e, fun k hk => by have := (World.ownsRow.lt H1.out k hk).2; simp; omega⟩, H2.out.alloc H2.out.size _, H2.out.size, ?_⟩
  · intro e
    have := (World.ownsRow.lt H1.out _ e).2
    omega
  · intro k hk
    have := World.ownsRow.lt H1.out k hk
    simp
    omega

end Go.Proofs.Ytdndfbgjaadbmaa
