import Derived.Test.YtblojlaifnmimaaGreatDoorRg
import Derived.Test.YtblojlaifnmimaaGreatDoorJ24
import Derived.Test.YtblojlaifnmimaaGreatDoorBl
import Derived.Test.YtblojlaifnmimaaGreatDoorJ17
import Derived.Test.YtblojlaifnmimaaGreatDoorD13r
namespace Go.Proofs.YtblojlaifnmimaaGreatDoor
open Go.RowKit
set_option linter.unusedVariables false

/-- The kind that is found among the first rows. -/
def kdW (x : List UInt8) (k : Nat) : Nat := match kindS x with
  | none => 0
  | some j => if j < k then j else 0
theorem findW_some {x : List UInt8} : ∀ {l : Ws} {a j : Nat}, findW x a l = some j → ∃ i, j = a + i ∧ i < l.length ∧ l.getD i [] = x := by
  intro l
  induction l with
  | nil => intro a j h; simp [findW] at h
  | cons y r ih =>
    intro a j h
    rw [findW] at h
    split at h
    · rename_i hy
      simp only [Option.some.injEq] at h
      exact ⟨0, by omega, by simp, by simpa using hy⟩
    · obtain ⟨i, h1, h2, h3⟩ := ih h
      exact ⟨i + 1, by omega, by simp; omega, by simpa using h3⟩
theorem kindS_word {x : List UInt8} {k : Nat} (h : kindS x = some k) : snN k = x := by
  unfold kindS at h
  obtain ⟨i, h1, h2, h3⟩ := findW_some h
  have hl : i < 13 := h2
  rw [← h3, ← sN_at (by omega), h1]
  simp [List.getD, Nat.add_comm]
theorem kdW_one (x : List UInt8) : kdW x 1 = 0 := by
  unfold kdW
  cases h : kindS x with
  | none => rfl
  | some j =>
    have := kindS_lt h
    simp only
    rw [if_neg (by omega)]
theorem kdW_succ {x : List UInt8} {k : Nat} (h1 : 1 ≤ k) (h13 : k ≤ 13) : kdW x (k + 1) = if snN k = x then k else kdW x k := by
  by_cases h : snN k = x
  · rw [if_pos h]
    unfold kdW
    rw [← h, kindS_back h1 h13]
    simp
  · rw [if_neg h]
    unfold kdW
    cases hk : kindS x with
    | none => rfl
    | some j =>
      simp only
      have : j ≠ k := by
        rintro rfl
        exact h (kindS_word hk)
      by_cases hj : j < k
      · rw [if_pos hj, if_pos (by omega)]
      · rw [if_neg hj, if_neg (by omega)]
theorem kdW_end (x : List UInt8) : kdW x 14 = (kindS x).getD 0 := by
  unfold kdW
  cases h : kindS x with
  | none => rfl
  | some j =>
    have := kindS_lt h
    simp only [Option.getD_some]
    rw [if_pos (by omega)]
theorem frL_at {k : Nat} (h1 : 1 ≤ k) (h13 : k ≤ 13) {i : Nat} (hi : i < (frL (slN k)).length) : i < (slN k).length ∧ (((slN k).getD i 0).toNat = 79 ∧ i + 1 = (frL (slN k)).length ∧ (frL (slN k)).getD i 0 = 111 ∨ ((slN k).getD i 0).toNat ≠ 79 ∧ (frL (slN k)).getD i 0 = (slN k).getD i 0 ∧ ((slN k).getD i 0 = 65 ∨ (slN k).getD i 0 = 75 ∨ (slN k).getD i 0 = 88 ∨ (slN k).getD i 0 = 89)) := by
  have key : ∀ k, k < 14 → ∀ i, i < (frL (slN k)).length → i < (slN k).length ∧ (((slN k).getD i 0).toNat = 79 ∧ i + 1 = (frL (slN k)).length ∧ (frL (slN k)).getD i 0 = 111 ∨ ((slN k).getD i 0).toNat ≠ 79 ∧ (frL (slN k)).getD i 0 = (slN k).getD i 0 ∧ ((slN k).getD i 0 = 65 ∨ (slN k).getD i 0 = 75 ∨ (slN k).getD i 0 = 88 ∨ (slN k).getD i 0 = 89)) := by decide
  exact key k (by omega) i hi
theorem frL_eqlen (lt : List UInt8) : (frL lt).length = lt.length := by simp [frL]
end Go.Proofs.YtblojlaifnmimaaGreatDoor

namespace Go.Proofs.YtblojlaifnmimaaGreatDoor
open Go.RowKit
set_option linter.unusedVariables false

set_option maxHeartbeats 6400000 in
set_option maxRecDepth 1000000 in
/-- The document's step. -/
theorem rstep_any {v : Value} {l : Ws} {cs : List Comp} {w : World} (A : All cs w) (hR : ∀ W, All cs W → Rt W v l) (h0 : l ≠ []) (hl : l.length ≤ 100000000000000) (hs : ∀ x ∈ l, x.length ≤ 140737488355328) :
    Calls Tryz.prog 23 #[v] w (SPost (stepR l) cs) := by
  obtain ⟨ao, c, rfl⟩ := (hR w A).form
  have hpos : 0 < l.length := List.length_pos_iff.2 h0
  have hpos' : (0 : Int) < (l.length : Int) := by omega
  have A0 := hid (A.addBlk zv 43)
  have LC : Hid (∀ W, All cs W → ∃ g o, ao = some ⟨g, o, none⟩ ∧ W.cell? ⟨g, o, none⟩ = some (.string ⟨(l.getD 0 []).toArray⟩)) := hid (fun W h => by
    obtain ⟨g, o, e, _, h1⟩ := (hR W h).at (j := 0) hpos
    exact ⟨g, o, e, h1⟩)
  have SR : Hid (stepR l = match kindS (l.getD 0 []) with
    | none => (.zero, 171)
    | some k => sgo (slN k) (l.drop 1) ⟨(k : Int), 0, 0, 0, 0, .zero⟩) := hid rfl
  have IZ : Hid ((Tryz.prog.info? 43).map (·.size) = some zv.toArray.size) := hid Tryz.i43
  have OZ : Hid (zv.toArray.all (·.oneCell') = true) := hid (sp_one .zero)
  have KS1 := hid (kdW_one (l.getD 0 []))
  have KSS : Hid (∀ k, 1 ≤ k → k ≤ 13 → kdW (l.getD 0 []) (k + 1) = if snN k = l.getD 0 [] then k else kdW (l.getD 0 []) k) := hid (fun k h1 h2 => kdW_succ h1 h2)
  have KSE := hid (kdW_end (l.getD 0 []))
  have EQ : Hid (∀ k, ((⟨(snN k).toArray⟩ : ByteArray).toList == (⟨(l.getD 0 []).toArray⟩ : ByteArray).toList) = decide (snN k = l.getD 0 [])) := hid (fun k => ba_ne)
  have QW : Hid (∀ k, 1 ≤ k → k ≤ 13 → ∀ W ds, All ds W → Calls Tryz.prog 43 #[.string ⟨(rowN.getD k []).toArray⟩] W fun e w' => e = .returned (.string ⟨(snN k).toArray⟩) ∧ All ds w') := hid (fun k h1 h13 W ds hA => by
    obtain ⟨r1, r2, r3, r4⟩ := row_word h1 h13
    have := word_any (w := W) r4
    rw [r1] at this
    exact this.mono fun e w' ⟨he, hw⟩ => ⟨he, by rw [hw]; exact hA⟩)
  generalize stepR l = G at *
  obtain ⟨g, o, rfl, _⟩ := LC.out w A
  have LC2 : Hid (∀ W, All cs W → W.cell? ⟨g, o, none⟩ = some (.string ⟨(l.getD 0 []).toArray⟩)) := hid (fun W h => by
    obtain ⟨g', o', e, h1⟩ := LC.out W h
    simp only [Option.some.injEq, Addr.mk.injEq, and_true] at e
    rw [e.1, e.2]; exact h1)
  have CE : Hid (∀ W i, All cs W → i + 1 < l.length → W.cell? ⟨g, o + (i + 1), none⟩ = some (.string ⟨(l.getD (i + 1) []).toArray⟩)) := hid (fun W i h hi => by
    obtain ⟨g', o', e, _, h2⟩ := (hR W h).at (j := i + 1) hi
    simp only [Option.some.injEq, Addr.mk.injEq, and_true] at e
    rw [e.1, e.2]; exact h2)
  have NU : Hid (∀ W ds i, i + 1 < l.length → All ds W → Calls Tryz.prog 40 #[.string ⟨(l.getD (i + 1) []).toArray⟩] W fun e w' => e = .returned (.tuple #[.int .i64 (((numW (l.getD (i + 1) [])).getD 0 : Nat) : Int), .bool (numW (l.getD (i + 1) [])).isSome]) ∧ All ds w') := hid (fun W ds i hi hA => (rNumber7 (by
      have hm : l.getD (i + 1) [] ∈ l := by
        rw [List.getD, List.getElem?_eq_getElem hi]
        exact List.getElem_mem hi
      exact hs _ hm)).mono fun e w' ⟨he, hw⟩ => ⟨he, by rw [hw]; exact hA⟩)
  have AH : Hid (∀ i, aheadW (l.drop (i + 1)) = if i + 1 < l.length then numW (l.getD (i + 1) []) else none) := hid (fun i => by
    by_cases hi : i + 1 < l.length
    · rw [if_pos hi, List.drop_eq_getElem_cons hi]
      unfold aheadW
      simp [List.getD, hi]
    · rw [if_neg hi, List.drop_of_length_le (by omega)]
      rfl)
  have CUT : Hid (∀ a, a ≤ l.length → ∃ ao' c', (∀ W, (Instr.slice 46 (.slice (some ⟨g, o, none⟩) l.length c) (some (.int .i64 (a : Int))) none none).run Tryz.prog W = .ok (.slice ao' (l.length - a) c') W) ∧ ∀ W, All cs W → Rt W (.slice ao' (l.length - a) c') (l.drop a)) := hid (fun a ha => by
    obtain ⟨a1, c1, h1, _⟩ := cut_l (hR w A) ha (x := (a : Int)) rfl
    refine ⟨a1, c1, h1, fun W h => ?_⟩
    obtain ⟨a2, c2, h2, h3⟩ := cut_l (hR W h) ha (x := (a : Int)) rfl
    have := (h1 w).symm.trans (h2 w)
    simp only [Result.ok.injEq, and_true] at this
    rw [this]
    exact h3)
  have HS' : Hid (∀ a, ∀ x ∈ l.drop a, x.length ≤ 140737488355328) := hid (fun a x hx => hs x (List.mem_of_mem_drop hx))
  have LD : Hid (∀ a, (l.drop a).length = l.length - a) := hid (fun a => List.length_drop)
  have DN : Hid (∀ a, l.length ≤ a → l.drop a = []) := hid (fun a ha => List.drop_of_length_le ha)
  have DP : Hid (∀ a, a < l.length → l.drop a ≠ []) := hid (fun a ha e => by have := congrArg List.length e; simp at this; omega)
  clear LC A hR hs h0
  have ez : zv.toArray = #[.int .i64 0, .int .i64 0, .int .i64 0, .int .i64 0, .int .i64 0, .int .i64 0, .string ⟨#[]⟩, .string ⟨#[]⟩, .int .i64 0, .int .i64 0] := rfl
  generalize hX : ByteArray.mk (l.getD 0 []).toArray = X at *
  clear hX
  generalize hn : l.length = n at *
  clear hn
  go_enter Tryz.func23, Tryz.ntmps23
  go_upto_block 0 with fail
  rw [ez] at A0
  generalize w.alloc (.cells #[.int .i64 0, .int .i64 0, .int .i64 0, .int .i64 0, .int .i64 0, .int .i64 0, .string ⟨#[]⟩, .string ⟨#[]⟩, .int .i64 0, .int .i64 0] 43) = w1 at *
  generalize w.heap.size = R at *
  go_cut [4] (fun kv wx => kv = .int .i64 ((kdW (l.getD 0 []) 14 : Nat) : Int) ∧ Hid (All (blkC R zv 43 :: cs) wx))
  case first =>
    go_wp2_with fail
    go_loopw [4, 5] (fun kv iv wr => ∃ k : Nat, 1 ≤ k ∧ k ≤ 14 ∧ iv = .int .i64 (k : Int) ∧ kv = .int .i64 ((kdW (l.getD 0 []) k : Nat) : Int) ∧ Hid (All (blkC R zv 43 :: cs) wr)) (fun _ iv _ => 14 - (intOf iv).toNat)
    case atStart => exact ⟨1, by omega, by omega, rfl, by rw [KS1.out]; rfl, A0⟩
    case round =>
      obtain ⟨k, hk1, hk14, rfl, rfl, HA⟩ := hrel
      clear A0
      by_cases hlt : k < 14
      · have hlt' : (k : Int) < 14 := by omega
        have kss := KSS.out k hk1 (by omega)
        have eq := EQ.out k
        by_cases hx : snN k = l.getD 0 []
        · rw [if_pos hx] at kss
          rw [decide_eq_true hx] at eq
          have KN := hid kss
          clear kss hx
          generalize kdW (l.getD 0 []) k = kd at *
          generalize hY : ByteArray.mk (snN k).toArray = Y at *
          have QK := hid (QW.out k hk1 (by omega))
          rw [hY] at QK
          have RW : Hid (∀ W, Calls Tryz.prog 42 #[] W fun e w' => ∃ g, e = .returned (.slice (some ⟨g, 0, none⟩) 14 14) ∧ Below W.heap.size W w' ∧ w'.cell? ⟨g, k, none⟩ = some (.string ⟨(rowN.getD k []).toArray⟩)) := hid (fun W => rows_all.mono (by rintro e w' ⟨g, h1, h2, h3⟩; exact ⟨g, h1, h2, h3 k hlt⟩))
          clear hY QW
          generalize ByteArray.mk (rowN.getD k []).toArray = Z at *
          go_upto_region 5 with (go_at_call 42; refine (RW.out _).mono ?_; rintro e w2 ⟨G2, rfl, b2, h2⟩; have K2 := hid (HA.out.later b2); clear b2 h2)
          refine wp_region_held_drew (S := fun W => W.cell? ⟨g, o, none⟩ = some (.string X)) (by kernel_rfl) (LC2.out _ K2.out.drew.tail) (fun hHeld => ?_)
          refine wpAnyH_take (i := 1) (oi := { dst := Option.some 22, op := Go.Op.move (Go.Operand.tmp 5), type := 3, pos := "ref.go:98", after := #[], guard := Option.none }) (v := ?_) rfl (by kernel_rfl) (by kernel_rfl) (by kernel_rfl) (fun _ _ _ h => h) (Or.inl ⟨by rfl, ?_⟩) hHeld ?_
          rotate_left
          · intro W hSw
            (try dsimp only at hSw)
            go_simp
            (try with_reducible rfl)
          (try simp only [Act.put, List.setIfInBounds_toArray, List.set_cons_zero, List.set_cons_succ])
          refine wpAnyH_take (i := 5) (oi := { dst := Option.some 26, op := Go.Op.move (Go.Operand.tmp 0), type := 46, pos := "ref.go:98", after := #[], guard := Option.none }) (v := ?_) rfl (by kernel_rfl) (by kernel_rfl) (by kernel_rfl) (fun _ _ _ h => h) (Or.inl ⟨by rfl, ?_⟩) hHeld ?_
          rotate_left
          · intro W hSw
            (try dsimp only at hSw)
            go_simp
            (try with_reducible rfl)
          (try simp only [Act.put, List.setIfInBounds_toArray, List.set_cons_zero, List.set_cons_succ])
          refine wpAnyH_take (i := 6) (oi := { dst := Option.some 27, op := Go.Op.indexAddr 46 (Go.Operand.tmp 26) (Go.Operand.const (Go.Value.int Go.IntKind.i64 0)), type := 0, pos := "ref.go:98", after := #[{ on := 5, ground := Go.Ground.data }], guard := Option.none }) (v := ?_) rfl (by kernel_rfl) (by kernel_rfl) (by kernel_rfl) (fun _ _ _ h => h) (Or.inl ⟨by rfl, ?_⟩) hHeld ?_
          rotate_left
          · intro W hSw
            (try dsimp only at hSw)
            go_simp
            (try with_reducible rfl)
          (try simp only [Act.put, List.setIfInBounds_toArray, List.set_cons_zero, List.set_cons_succ])
          refine wpAnyH_take (i := 7) (oi := { dst := Option.some 28, op := Go.Op.load 9 (Go.Operand.tmp 27), type := 9, pos := "ref.go:98", after := #[{ on := 6, ground := Go.Ground.data }], guard := Option.none }) (v := ?_) rfl (by kernel_rfl) (by kernel_rfl) (by kernel_rfl) (fun _ _ _ h => h) (Or.inl ⟨by rfl, ?_⟩) hHeld ?_
          rotate_left
          · intro W hSw
            (try dsimp only at hSw)
            go_simp
            (try with_reducible rfl)
          (try simp only [Act.put, List.setIfInBounds_toArray, List.set_cons_zero, List.set_cons_succ])
          refine wpAnyH_ready (rs := [0]) (by kernel_rfl) (by simp) ?_
          refine AllReadyH.cons (o := { dst := Option.some 21, op := Go.Op.call { callee := Go.Callee.value (Go.Operand.func 42), args := #[], argTypes := #[] }, type := 46, pos := "ref.go:98", after := #[], guard := Option.none }) rfl (fun K hK => ?_) AllReadyH.nil
          go_simp
          go_at_call 42
          refine (RW.out _).mono ?_
          rintro e w3 ⟨G3, rfl, b3, c3⟩
          have K3 := hid (K2.out.drew.later b3)
          clear b3
          refine hK.out _ _ (LC2.out _ K3.out.tail) (fun hHeld => ?_)
          clear hK K
          (try simp only [Act.put, List.setIfInBounds_toArray, List.set_cons_zero, List.set_cons_succ])
          refine wpAnyH_take (i := 2) (oi := { dst := Option.some 23, op := Go.Op.indexAddr 46 (Go.Operand.tmp 21) (Go.Operand.tmp 22), type := 0, pos := "ref.go:98", after := #[{ on := 0, ground := Go.Ground.data }, { on := 1, ground := Go.Ground.data }], guard := Option.none }) (v := ?_) rfl (by kernel_rfl) (by kernel_rfl) (by kernel_rfl) (fun _ _ _ h => h) (Or.inl ⟨by rfl, ?_⟩) hHeld ?_
          rotate_left
          · intro W hSw
            (try dsimp only at hSw)
            go_simp
            (try with_reducible rfl)
          (try simp only [Act.put, List.setIfInBounds_toArray, List.set_cons_zero, List.set_cons_succ])
          refine wpAnyH_ready (rs := [3]) (by kernel_rfl) (by simp) ?_
          refine AllReadyH.cons (o := { dst := Option.some 24, op := Go.Op.load 9 (Go.Operand.tmp 23), type := 9, pos := "ref.go:98", after := #[{ on := 2, ground := Go.Ground.data }], guard := Option.none }) rfl (fun K hK => ?_) AllReadyH.nil
          go_simp
          refine hK.out _ _ (LC2.out _ K3.out.tail) (fun hHeld => ?_)
          clear hK K
          (try simp only [Act.put, List.setIfInBounds_toArray, List.set_cons_zero, List.set_cons_succ])
          refine wpAnyH_ready (rs := [4]) (by kernel_rfl) (by simp) ?_
          refine AllReadyH.cons (o := { dst := Option.some 25, op := Go.Op.call { callee := Go.Callee.value (Go.Operand.func 43), args := #[Go.Operand.tmp 24], argTypes := #[9] }, type := 9, pos := "ref.go:98", after := #[{ on := 3, ground := Go.Ground.data }, { on := 0, ground := Go.Ground.chain }], guard := Option.none }) rfl (fun K hK => ?_) AllReadyH.nil
          go_simp
          go_at_call 43
          refine (QK.out _ _ K3.out).mono ?_
          rintro e w4 ⟨rfl, A4⟩
          have K4 := hid A4
          clear A4
          refine hK.out _ _ (LC2.out _ K4.out.tail) (fun hHeld => ?_)
          clear hK K
          (try simp only [Act.put, List.setIfInBounds_toArray, List.set_cons_zero, List.set_cons_succ])
          refine wpAnyH_take (i := 8) (oi := { dst := Option.some 29, op := Go.Op.binOp Go.BinOp.eql 9 (Go.Operand.tmp 25) (Go.Operand.tmp 28) 9, type := 4, pos := "ref.go:98", after := #[{ on := 4, ground := Go.Ground.data }, { on := 7, ground := Go.Ground.data }], guard := Option.none }) (v := ?_) rfl (by kernel_rfl) (by kernel_rfl) (by kernel_rfl) (fun _ _ _ h => h) (Or.inl ⟨by rfl, ?_⟩) hHeld ?_
          rotate_left
          · intro W hSw
            (try dsimp only at hSw)
            go_simp
            (try with_reducible rfl)
          (try simp only [Act.put, List.setIfInBounds_toArray, List.set_cons_zero, List.set_cons_succ])
          refine wpAnyH_done (by kernel_rfl) ?_ _
          clear hHeld K3
          go_wp2
          go_roundw
          case rel => exact ⟨k + 1, by omega, by omega, by go_num, by rw [KN.out], K4⟩
          case measure => simp [intOf]; omega
        · rw [if_neg hx] at kss
          rw [decide_eq_false hx] at eq
          have KN := hid kss
          clear kss hx
          generalize hkd : kdW (l.getD 0 []) k = kd at *
          clear hkd
          generalize hY : ByteArray.mk (snN k).toArray = Y at *
          have QK := hid (QW.out k hk1 (by omega))
          rw [hY] at QK
          have RW : Hid (∀ W, Calls Tryz.prog 42 #[] W fun e w' => ∃ g, e = .returned (.slice (some ⟨g, 0, none⟩) 14 14) ∧ Below W.heap.size W w' ∧ w'.cell? ⟨g, k, none⟩ = some (.string ⟨(rowN.getD k []).toArray⟩)) := hid (fun W => rows_all.mono (by rintro e w' ⟨g, h1, h2, h3⟩; exact ⟨g, h1, h2, h3 k hlt⟩))
          clear hY QW
          generalize ByteArray.mk (rowN.getD k []).toArray = Z at *
          go_upto_region 5 with (go_at_call 42; refine (RW.out _).mono ?_; rintro e w2 ⟨G2, rfl, b2, h2⟩; have K2 := hid (HA.out.later b2); clear b2 h2)
          refine wp_region_held_drew (S := fun W => W.cell? ⟨g, o, none⟩ = some (.string X)) (by kernel_rfl) (LC2.out _ K2.out.drew.tail) (fun hHeld => ?_)
          refine wpAnyH_take (i := 1) (oi := { dst := Option.some 22, op := Go.Op.move (Go.Operand.tmp 5), type := 3, pos := "ref.go:98", after := #[], guard := Option.none }) (v := ?_) rfl (by kernel_rfl) (by kernel_rfl) (by kernel_rfl) (fun _ _ _ h => h) (Or.inl ⟨by rfl, ?_⟩) hHeld ?_
          rotate_left
          · intro W hSw
            (try dsimp only at hSw)
            go_simp
            (try with_reducible rfl)
          (try simp only [Act.put, List.setIfInBounds_toArray, List.set_cons_zero, List.set_cons_succ])
          refine wpAnyH_take (i := 5) (oi := { dst := Option.some 26, op := Go.Op.move (Go.Operand.tmp 0), type := 46, pos := "ref.go:98", after := #[], guard := Option.none }) (v := ?_) rfl (by kernel_rfl) (by kernel_rfl) (by kernel_rfl) (fun _ _ _ h => h) (Or.inl ⟨by rfl, ?_⟩) hHeld ?_
          rotate_left
          · intro W hSw
            (try dsimp only at hSw)
            go_simp
            (try with_reducible rfl)
          (try simp only [Act.put, List.setIfInBounds_toArray, List.set_cons_zero, List.set_cons_succ])
          refine wpAnyH_take (i := 6) (oi := { dst := Option.some 27, op := Go.Op.indexAddr 46 (Go.Operand.tmp 26) (Go.Operand.const (Go.Value.int Go.IntKind.i64 0)), type := 0, pos := "ref.go:98", after := #[{ on := 5, ground := Go.Ground.data }], guard := Option.none }) (v := ?_) rfl (by kernel_rfl) (by kernel_rfl) (by kernel_rfl) (fun _ _ _ h => h) (Or.inl ⟨by rfl, ?_⟩) hHeld ?_
          rotate_left
          · intro W hSw
            (try dsimp only at hSw)
            go_simp
            (try with_reducible rfl)
          (try simp only [Act.put, List.setIfInBounds_toArray, List.set_cons_zero, List.set_cons_succ])
          refine wpAnyH_take (i := 7) (oi := { dst := Option.some 28, op := Go.Op.load 9 (Go.Operand.tmp 27), type := 9, pos := "ref.go:98", after := #[{ on := 6, ground := Go.Ground.data }], guard := Option.none }) (v := ?_) rfl (by kernel_rfl) (by kernel_rfl) (by kernel_rfl) (fun _ _ _ h => h) (Or.inl ⟨by rfl, ?_⟩) hHeld ?_
          rotate_left
          · intro W hSw
            (try dsimp only at hSw)
            go_simp
            (try with_reducible rfl)
          (try simp only [Act.put, List.setIfInBounds_toArray, List.set_cons_zero, List.set_cons_succ])
          refine wpAnyH_ready (rs := [0]) (by kernel_rfl) (by simp) ?_
          refine AllReadyH.cons (o := { dst := Option.some 21, op := Go.Op.call { callee := Go.Callee.value (Go.Operand.func 42), args := #[], argTypes := #[] }, type := 46, pos := "ref.go:98", after := #[], guard := Option.none }) rfl (fun K hK => ?_) AllReadyH.nil
          go_simp
          go_at_call 42
          refine (RW.out _).mono ?_
          rintro e w3 ⟨G3, rfl, b3, c3⟩
          have K3 := hid (K2.out.drew.later b3)
          clear b3
          refine hK.out _ _ (LC2.out _ K3.out.tail) (fun hHeld => ?_)
          clear hK K
          (try simp only [Act.put, List.setIfInBounds_toArray, List.set_cons_zero, List.set_cons_succ])
          refine wpAnyH_take (i := 2) (oi := { dst := Option.some 23, op := Go.Op.indexAddr 46 (Go.Operand.tmp 21) (Go.Operand.tmp 22), type := 0, pos := "ref.go:98", after := #[{ on := 0, ground := Go.Ground.data }, { on := 1, ground := Go.Ground.data }], guard := Option.none }) (v := ?_) rfl (by kernel_rfl) (by kernel_rfl) (by kernel_rfl) (fun _ _ _ h => h) (Or.inl ⟨by rfl, ?_⟩) hHeld ?_
          rotate_left
          · intro W hSw
            (try dsimp only at hSw)
            go_simp
            (try with_reducible rfl)
          (try simp only [Act.put, List.setIfInBounds_toArray, List.set_cons_zero, List.set_cons_succ])
          refine wpAnyH_ready (rs := [3]) (by kernel_rfl) (by simp) ?_
          refine AllReadyH.cons (o := { dst := Option.some 24, op := Go.Op.load 9 (Go.Operand.tmp 23), type := 9, pos := "ref.go:98", after := #[{ on := 2, ground := Go.Ground.data }], guard := Option.none }) rfl (fun K hK => ?_) AllReadyH.nil
          go_simp
          refine hK.out _ _ (LC2.out _ K3.out.tail) (fun hHeld => ?_)
          clear hK K
          (try simp only [Act.put, List.setIfInBounds_toArray, List.set_cons_zero, List.set_cons_succ])
          refine wpAnyH_ready (rs := [4]) (by kernel_rfl) (by simp) ?_
          refine AllReadyH.cons (o := { dst := Option.some 25, op := Go.Op.call { callee := Go.Callee.value (Go.Operand.func 43), args := #[Go.Operand.tmp 24], argTypes := #[9] }, type := 9, pos := "ref.go:98", after := #[{ on := 3, ground := Go.Ground.data }, { on := 0, ground := Go.Ground.chain }], guard := Option.none }) rfl (fun K hK => ?_) AllReadyH.nil
          go_simp
          go_at_call 43
          refine (QK.out _ _ K3.out).mono ?_
          rintro e w4 ⟨rfl, A4⟩
          have K4 := hid A4
          clear A4
          refine hK.out _ _ (LC2.out _ K4.out.tail) (fun hHeld => ?_)
          clear hK K
          (try simp only [Act.put, List.setIfInBounds_toArray, List.set_cons_zero, List.set_cons_succ])
          refine wpAnyH_take (i := 8) (oi := { dst := Option.some 29, op := Go.Op.binOp Go.BinOp.eql 9 (Go.Operand.tmp 25) (Go.Operand.tmp 28) 9, type := 4, pos := "ref.go:98", after := #[{ on := 4, ground := Go.Ground.data }, { on := 7, ground := Go.Ground.data }], guard := Option.none }) (v := ?_) rfl (by kernel_rfl) (by kernel_rfl) (by kernel_rfl) (fun _ _ _ h => h) (Or.inl ⟨by rfl, ?_⟩) hHeld ?_
          rotate_left
          · intro W hSw
            (try dsimp only at hSw)
            go_simp
            (try with_reducible rfl)
          (try simp only [Act.put, List.setIfInBounds_toArray, List.set_cons_zero, List.set_cons_succ])
          refine wpAnyH_done (by kernel_rfl) ?_ _
          clear hHeld K3
          go_wp2
          go_roundw
          case rel => exact ⟨k + 1, by omega, by omega, by go_num, by rw [KN.out], K4⟩
          case measure => simp [intOf]; omega
      · have hlt' : ¬ (k : Int) < 14 := by omega
        have e14 : k = 14 := by omega
        have KN : Hid (kdW (l.getD 0 []) k = kdW (l.getD 0 []) 14) := hid (by rw [e14])
        clear e14
        generalize kdW (l.getD 0 []) k = kd at *
        go_wp2_with (go_at_call 42; refine rows_all.mono ?_; rintro e w2 ⟨G2, rfl, b2, h2⟩; have K2 := hid (HA.out.later b2); clear b2 h2)
        go_meet
        exact ⟨by rw [KN.out], K2⟩
  case rest =>
    obtain ⟨rfl, K1⟩ := hcut
    clear A0 KS1 KSS EQ QW
    rw [KSE.out]
    clear KSE
    cases hK : kindS (l.getD 0 []) with
    | none =>
      have fin : Hid (G = (.zero, 171)) := hid (by rw [SR.out, hK])
      simp only [Option.getD_none]
      clear SR hK
      have K4 := hid K1.out
      have H4 := hid K4.out.1.2.1
      have K5 := hid (K4.out.setRow (vs' := zv))
      go_wp2_with (first | (refine wpList_build rfl 43 _ rfl (by kernel_rfl) ?_) | (refine wpList_store_row rfl 43 _ _ rfl R zv.toArray rfl (by kernel_rfl) 43 _ H4.out IZ.out rfl OZ.out ?_))
      refine ret2 rfl rfl rfl (ld43 K5.out.1.2.1 rfl) rfl ?_
      exact ⟨by rw [fin.out]; rfl, K5.out.tail⟩

    | some k =>
      obtain ⟨h1, h13⟩ := kindS_lt hK
      have hG : G = sgo (slN k) (l.drop 1) ⟨(k : Int), 0, 0, 0, 0, .zero⟩ := by rw [SR.out, hK]
      simp only [Option.getD_some]
      obtain ⟨r1, r2, r3, r4⟩ := row_word h1 h13
      have QF : Hid (∀ W ds, All ds W → Calls Tryz.prog 44 #[.string ⟨(rowN.getD k []).toArray⟩] W fun e w' => e = .returned (.string ⟨(frL (slN k)).toArray⟩) ∧ All ds w') := hid (fun W ds hA => by
        have := fields_any (w := W) r4 r3
        rw [r2] at this
        exact this.mono fun e w' ⟨he, hw⟩ => ⟨he, by rw [hw]; exact hA⟩)
      have IX : Hid (∀ i, i < (frL (slN k)).length → ∀ W, (Instr.index 9 (.string ⟨(frL (slN k)).toArray⟩) (.int .i64 (i : Int))).run Tryz.prog W = .ok (.int .u8 (((frL (slN k)).getD i 0).toNat : Int)) W) := hid (fun i hi W => idx_at hi W)
      have zf : (⟨(frL (slN k)).toArray⟩ : ByteArray).size = (frL (slN k)).length := ba_size _
      have FA : Hid (∀ i, i < (frL (slN k)).length → i < (slN k).length ∧ (((slN k).getD i 0).toNat = 79 ∧ i + 1 = (frL (slN k)).length ∧ (frL (slN k)).getD i 0 = 111 ∨ ((slN k).getD i 0).toNat ≠ 79 ∧ (frL (slN k)).getD i 0 = (slN k).getD i 0 ∧ ((slN k).getD i 0 = 65 ∨ (slN k).getD i 0 = 75 ∨ (slN k).getD i 0 = 88 ∨ (slN k).getD i 0 = 89))) := hid (fun i hi => frL_at h1 h13 hi)
      have F3 := frL_len h1 h13
      have FL := hid (frL_eqlen (slN k))
      have hk0 : ((k : Int) == 0) = false := by simp; omega
      have hk14 : (k : Int) < 14 := by omega
      have A1 := hid (K1.out.addBlk (Sp.vals ⟨(k : Int), 0, 0, 0, 0, .zero⟩) 43)
      have es0 : (Sp.vals ⟨(k : Int), 0, 0, 0, 0, .zero⟩).toArray = #[.int .i64 (k : Int), .int .i64 0, .int .i64 0, .int .i64 0, .int .i64 0, .int .i64 0, .string ⟨#[]⟩, .string ⟨#[]⟩, .int .i64 0, .int .i64 0] := rfl
      have G0 : Hid (G = sgo ((slN k).drop 0) (l.drop (0 + 1)) ⟨(k : Int), 0, 0, 0, 0, .zero⟩) := hid hG
      rw [es0] at A1
      clear SR hK hG r1 r2 r3 r4 K1
      generalize slN k = lt at *
      generalize frL lt = f at *
      generalize hF : ByteArray.mk f.toArray = F at *
      clear hF
      generalize hnf : f.length = nf at *
      clear hnf
      have hkN : k < 14 := by omega
      have RW : Hid (∀ W, Calls Tryz.prog 42 #[] W fun e w' => ∃ g, e = .returned (.slice (some ⟨g, 0, none⟩) 14 14) ∧ Below W.heap.size W w' ∧ w'.cell? ⟨g, k, none⟩ = some (.string ⟨(rowN.getD k []).toArray⟩)) := hid (fun W => rows_all.mono (by rintro e w' ⟨g, h1, h2, h3⟩; exact ⟨g, h1, h2, h3 k hkN⟩))
      generalize ByteArray.mk (rowN.getD k []).toArray = Z at *
      go_upto_region 11 with fail
      generalize wc.alloc (.cells #[.int .i64 (k : Int), .int .i64 0, .int .i64 0, .int .i64 0, .int .i64 0, .int .i64 0, .string ⟨#[]⟩, .string ⟨#[]⟩, .int .i64 0, .int .i64 0] 43) = w2 at *
      generalize wc.heap.size = SB at *
      go_upto_block 2 with (first | (go_at_call 42; refine (RW.out _).mono ?_; rintro e w3 ⟨G3, rfl, b3, c3⟩; have K3 := hid (A1.out.later b3); clear b3) | (go_at_call 44; refine (QF.out _ _ K3.out).mono ?_; rintro e w4 ⟨rfl, A4⟩; have K4 := hid A4; clear A4))
      clear A1 K3 c3 RW QF
      go_wp2_with fail
      go_loopw [7, 9, 10, 11] (fun av iv u10 u11 wr => ∃ (i : Nat) (s : Sp), i ≤ nf ∧ i + 1 ≤ n ∧ iv = .int .i64 (i : Int) ∧ av = .int .i64 ((i : Int) + 1) ∧ Hid (∀ j, j < i → f.getD j 0 ≠ 111) ∧ Hid (G = sgo (lt.drop i) (l.drop (i + 1)) s) ∧ Hid (All (blkC SB s.vals 43 :: blkC R zv 43 :: cs) wr)) (fun _ iv _ _ _ => nf - (intOf iv).toNat)
      case atStart => exact ⟨0, _, by omega, by omega, rfl, rfl, hid (fun j hj => by omega), G0, K4⟩
      case round =>
        obtain ⟨i, s, hi, hin, rfl, rfl, hJ, hGo, HA⟩ := hrel
        clear K4 G0
        have IS : Hid ((Tryz.prog.info? 43).map (·.size) = some s.vals.toArray.size) := hid Tryz.i43
        have OS := hid (sp_one s)
        have ZS : Hid (zv.toArray.size = s.vals.toArray.size) := hid rfl
        have LS : Hid (s.vals.toArray.size = 10) := hid rfl
        by_cases hlt : i < nf
        · have hlt' : (i : Int) < (nf : Int) := by omega
          obtain ⟨hil, hc⟩ := FA.out i hlt
          have ix := IX.out i hlt
          have SG := hid (sgo_at (lt := lt) hil (l.drop (i + 1)) s)
          rw [← hGo.out] at SG
          rcases hc with ⟨h79, hend, h111⟩ | ⟨h79, heq, hcc⟩
          · rw [if_pos h79] at SG
            rw [h111] at ix
            have e111 : (((111 : UInt8).toNat : Nat) : Int) = 111 := rfl
            rw [e111] at ix
            subst hend
            have in1 := hid (show ((i + 1 : Nat) : Int) = (i : Int) + 1 by omega)
            obtain ⟨a5, c5, hcut5, hrt5⟩ := CUT.out (i + 1) hin
            rw [in1.out] at hcut5
            have Q := hid (rReadOp_any HA.out (fun W h => hrt5 W h.tail.tail) (by rw [LD.out]; omega) (HS'.out (i + 1)))
            unfold ROPost opV at Q
            unfold wOp at SG
            rw [LD.out] at SG
            have RK : Hid ((readO (l.drop (i + 1))).e = 0 → (readO (l.drop (i + 1))).k ≤ n - (i + 1)) := hid (fun h => by have := (readO_ok h).2.2; rwa [LD.out] at this)
            generalize readO (l.drop (i + 1)) = ro at *
            have wf : IntKind.i64.wrap ((i : Int) + 1 - 1) = (i : Int) := by rw [IntKind.wrap_i64]; omega
            have hgt : (0 : Int) < (i : Int) + 1 := by omega
            clear h79 h111 e111 hJ FA IX hGo NU CE AH CUT HS' DN DP hrt5 LC2 hil FL
            obtain ⟨OV, hOV⟩ : ∃ OV : List Value, OV = [.int .i64 ro.o.k, .string ⟨ro.o.nm.toArray⟩, .string ⟨ro.o.tx.toArray⟩, .int .i64 (ro.o.n : Int), .int .i64 (ro.o.m : Int)] := ⟨_, rfl⟩
            have I41 : Hid ((Tryz.prog.info? 41).map (·.size) = some OV.toArray.size) := hid (by rw [hOV]; exact Tryz.i41)
            have O41 : Hid (OV.toArray.all (·.oneCell') = true) := hid (by rw [hOV]; simp [Value.oneCell'])
            have SM : Hid (setMid s.vals 5 OV = Sp.vals { s with o := ro.o.toI }) := hid (by rw [hOV]; rfl)
            have L5 : Hid (OV.toArray.size = 5) := hid (by rw [hOV]; rfl)
            have HOV : Hid (OV.toArray = #[.int .i64 ro.o.k, .string ⟨ro.o.nm.toArray⟩, .string ⟨ro.o.tx.toArray⟩, .int .i64 (ro.o.n : Int), .int .i64 (ro.o.m : Int)]) := hid (by rw [hOV])
            clear hOV
            generalize ro.o.toI = oi at *
            obtain ⟨SV2, hSV2⟩ : ∃ SV2, SV2 = Sp.vals { s with o := oi } := ⟨_, rfl⟩
            have IS2 : Hid ((Tryz.prog.info? 43).map (·.size) = some SV2.toArray.size) := hid (by rw [hSV2]; exact Tryz.i43)
            have OS2 : Hid (SV2.toArray.all (·.oneCell') = true) := hid (by rw [hSV2]; exact sp_one _)
            have ZS2 : Hid (zv.toArray.size = SV2.toArray.size) := hid (by rw [hSV2]; rfl)
            have LS2 : Hid (SV2.toArray.size = 10) := hid (by rw [hSV2]; rfl)
            rw [← hSV2] at SM
            have HSV2 := hid hSV2
            clear hSV2
            have LSV : Hid (s.vals.length = 10) := hid rfl
            rw [← HOV.out] at Q
            generalize s.vals = SV at *
            go_upto_region 24 with (first | (go_at_call 46; refine Q.out.mono ?_; rintro e w3 ⟨rfl, A3⟩; have K3 := hid A3; clear A3) | (refine wpList_store_row rfl 41 _ _ rfl w3.heap.size OV.toArray rfl rfl 41 _ (heap_alloc_new w3 _) I41.out L5.out.symm O41.out ?_; rw [World.setRow_alloc_new]))
            have K6 := hid (K3.out.addBlk OV 41)
            clear K3 Q
            generalize w3.heap.size = OB at *
            generalize w3.alloc (.cells OV.toArray 41) = w6 at *
            by_cases he : ro.e = 0
            · rw [if_neg (by simp [he])] at SG
              have hrk := RK.out he
              clear RK
              rw [he]
              have HO := hid K6.out.1.2.1
              have K7 := hid (K6.out.swap.setMid OV SV 5)
              rw [SM.out] at K7
              have TH : Hid (w6.there SB 5 OV.toArray.size) := hid (blk_there K6.out (.tail _ (.head _)) (by rw [L5.out, LSV.out]; exact Nat.le_refl _))
              by_cases hk : ro.k < n - (i + 1)
              · rw [if_pos hk] at SG
                have fin : Hid (G = (.zero, 171)) := hid SG.out
                have hlt2 : (i : Int) + 1 + (ro.k : Int) < (n : Int) := by omega
                have K4 := hid (K7.out.perm (perm3a _ _ _ _))
                have H4 := hid K4.out.1.2.1
                have K5 := hid (K4.out.setRow (vs' := zv))
                clear SG
                go_wp2_with (first | (refine wpList_load_row rfl 41 _ rfl OB rfl 41 OV.toArray (0, 0) _ HO.out Tryz.underlying41 rfl I41.out ?_) | (refine wpList_store_mid rfl 41 _ _ rfl SB 5 OV.toArray rfl rfl TH.out I41.out O41.out ?_) | (refine wpList_build rfl 43 _ rfl (by kernel_rfl) ?_) | (refine wpList_store_row rfl 43 _ _ rfl R zv.toArray rfl (by kernel_rfl) 43 _ H4.out IZ.out rfl OZ.out ?_))
                refine ret2 rfl rfl rfl (ld43 K5.out.1.2.1 rfl) rfl ?_
                exact ⟨by rw [fin.out]; rfl, K5.out.tail.tail.tail⟩
              · rw [if_neg hk] at SG
                have fin : Hid (G = ({ s with o := oi }, 0)) := hid SG.out
                have hlt2 : ¬ (i : Int) + 1 + (ro.k : Int) < (n : Int) := by omega
                have HS := hid K7.out.1.2.1
                have K4 := hid (K7.out.perm (perm3a _ _ _ _))
                have H4 := hid K4.out.1.2.1
                have K5 := hid (K4.out.setRow (vs' := SV2))
                clear SG
                go_wp2_with (first | (refine wpList_load_row rfl 41 _ rfl OB rfl 41 OV.toArray (0, 0) _ HO.out Tryz.underlying41 rfl I41.out ?_) | (refine wpList_store_mid rfl 41 _ _ rfl SB 5 OV.toArray rfl rfl TH.out I41.out O41.out ?_) | (refine wpList_load_row rfl 43 _ rfl SB rfl 43 SV2.toArray (0, 0) _ HS.out Tryz.underlying43 rfl IS2.out ?_) | (refine wpList_store_row rfl 43 _ _ rfl R SV2.toArray rfl rfl 43 _ H4.out IS2.out ZS2.out OS2.out ?_))
                refine ret2 rfl rfl rfl (ld43 K5.out.1.2.1 LS2.out) rfl ?_
                exact ⟨by rw [fin.out]; show _ = Ending.returned (.tuple #[.agg (Sp.vals { s with o := oi }).toArray, .int .i64 0]); rw [HSV2.out]; rfl, K5.out.tail.tail.tail⟩
            · have he' : (ro.e != 0) = true := by simpa using he
              rw [if_pos (by simpa using he)] at SG
              have fin : Hid (G = (.zero, ro.e)) := hid SG.out
              have K4 := hid (K6.out.perm (perm3a _ _ _ _))
              have H4 := hid K4.out.1.2.1
              have K5 := hid (K4.out.setRow (vs' := zv))
              clear SG he
              generalize ro.e = E at *
              go_wp2_with (first | (refine wpList_build rfl 43 _ rfl (by kernel_rfl) ?_) | (refine wpList_store_row rfl 43 _ _ rfl R zv.toArray rfl (by kernel_rfl) 43 _ H4.out IZ.out rfl OZ.out ?_))
              refine ret2 rfl rfl rfl (ld43 K5.out.1.2.1 rfl) rfl ?_
              exact ⟨by rw [fin.out]; rfl, K5.out.tail.tail.tail⟩
          · rw [if_neg h79, AH.out i] at SG
            have HJ : Hid (∀ j, j < i + 1 → f.getD j 0 ≠ 111) := hid (fun j hj => by
              by_cases hji : j < i
              · exact hJ.out j hji
              · have : j = i := by omega
                subst this
                rw [heq]
                rcases hcc with h | h | h | h <;> rw [h] <;> decide)
            rw [heq] at ix
            generalize hC : lt.getD i 0 = C at *
            have hne : ((C.toNat : Int) != 111) = true := by rcases hcc with h | h | h | h <;> rw [h] <;> rfl
            clear hC heq h79 hil hGo hJ FA IX CUT HS' DN DP LC2 FL
            by_cases hat : i + 1 < n
            · rw [if_pos hat] at SG
              have hat1 : ¬ (n : Int) ≤ (i : Int) + 1 := by omega
              have hat2 : (i : Int) + 1 < (n : Int) := by omega
              have ce := CE.out wr i HA.out.tail.tail hat
              have Q := hid (NU.out wr _ i hat HA.out)
              generalize l.getD (i + 1) [] = x at *
              cases hN : numW x with
              | none =>
                rw [hN] at SG Q
                simp only [Option.getD_none, Option.isSome_none] at Q
                have fin : Hid (G = (.zero, 171)) := hid SG.out
                clear SG hN CE NU AH
                generalize ByteArray.mk x.toArray = Y at *
                go_wp2_with (first | (go_at_call 40; refine Q.out.mono ?_; rintro e w2 ⟨rfl, A2⟩; have K4 := hid A2.swap; clear A2; have H4 := hid K4.out.1.2.1; have K5 := hid (K4.out.setRow (vs' := zv))) | (refine wpList_build rfl 43 _ rfl (by kernel_rfl) ?_) | (refine wpList_store_row rfl 43 _ _ rfl R zv.toArray rfl (by kernel_rfl) 43 _ H4.out IZ.out rfl OZ.out ?_))
                refine ret2 rfl rfl rfl (ld43 K5.out.1.2.1 rfl) rfl ?_
                exact ⟨by rw [fin.out]; rfl, K5.out.tail.tail⟩
              | some m =>
                rw [hN] at SG Q
                simp only [Option.getD_some, Option.isSome_some] at Q
                have nx : Hid (G = sgo (lt.drop (i + 1)) (l.drop (i + 1 + 1)) (setS C.toNat (m : Int) s)) := hid (by
                  rw [SG.out]
                  simp only [List.drop_drop])
                have W45 : Hid (∀ W, Calls Tryz.prog 45 #[.agg s.vals.toArray, .int .u8 (C.toNat : Int), .int .i64 (m : Int)] W fun e w' => e = .returned (.agg (setS C.toNat (m : Int) s).vals.toArray) ∧ Below W.heap.size W w') := hid (fun W => with_any hcc)
                have IS2 : Hid ((Tryz.prog.info? 43).map (·.size) = some (setS C.toNat (m : Int) s).vals.toArray.size) := hid Tryz.i43
                have OS2 := hid (sp_one (setS C.toNat (m : Int) s))
                have ZS2 : Hid (s.vals.toArray.size = (setS C.toNat (m : Int) s).vals.toArray.size) := hid rfl
                clear SG hN CE NU AH hcc
                generalize ByteArray.mk x.toArray = Y at *
                generalize setS C.toNat (m : Int) s = s2 at *
                generalize hSV2 : s2.vals = SV2 at *
                have HSV2 := hid hSV2
                clear hSV2
                generalize s.vals = SV at *
                go_upto_region 20 with (go_at_call 40; refine Q.out.mono ?_; rintro e w2 ⟨rfl, A2⟩; have K2 := hid A2; clear A2)
                clear HA
                have HA := K2
                clear K2
                have HH := hid HA.out.drew.1.2.1
                refine wp_region_held_drew (S := fun _ => True) (by kernel_rfl) trivial (fun hHeld => ?_)
                refine wpAnyH_take (i := 1) (oi := { dst := Option.some 70, op := Go.Op.move (Go.Operand.tmp 8), type := 9, pos := "ref.go:116", after := #[], guard := Option.none }) (v := ?_) rfl (by kernel_rfl) (by kernel_rfl) (by kernel_rfl) (fun _ _ _ h => h) (Or.inl ⟨by rfl, ?_⟩) hHeld ?_
                rotate_left
                · intro W hSw
                  (try dsimp only at hSw)
                  go_simp
                  (try with_reducible rfl)
                (try simp only [Act.put, List.setIfInBounds_toArray, List.set_cons_zero, List.set_cons_succ])
                refine wpAnyH_take (i := 2) (oi := { dst := Option.some 71, op := Go.Op.move (Go.Operand.tmp 9), type := 3, pos := "ref.go:116", after := #[], guard := Option.none }) (v := ?_) rfl (by kernel_rfl) (by kernel_rfl) (by kernel_rfl) (fun _ _ _ h => h) (Or.inl ⟨by rfl, ?_⟩) hHeld ?_
                rotate_left
                · intro W hSw
                  (try dsimp only at hSw)
                  go_simp
                  (try with_reducible rfl)
                (try simp only [Act.put, List.setIfInBounds_toArray, List.set_cons_zero, List.set_cons_succ])
                refine wpAnyH_take (i := 3) (oi := { dst := Option.some 72, op := Go.Op.index 9 (Go.Operand.tmp 70) (Go.Operand.tmp 71), type := 5, pos := "ref.go:116", after := #[{ on := 1, ground := Go.Ground.data }, { on := 2, ground := Go.Ground.data }], guard := Option.none }) (v := ?_) rfl (by kernel_rfl) (by kernel_rfl) (by kernel_rfl) (fun _ _ _ h => h) (Or.inl ⟨by rfl, ?_⟩) hHeld ?_
                rotate_left
                · intro W hSw
                  (try dsimp only at hSw)
                  go_simp
                  (try with_reducible rfl)
                (try simp only [Act.put, List.setIfInBounds_toArray, List.set_cons_zero, List.set_cons_succ])
                refine wpAnyH_take (i := 4) (oi := { dst := Option.some 73, op := Go.Op.move (Go.Operand.tmp 10), type := 3, pos := "ref.go:116", after := #[], guard := Option.none }) (v := ?_) rfl (by kernel_rfl) (by kernel_rfl) (by kernel_rfl) (fun _ _ _ h => h) (Or.inl ⟨by rfl, ?_⟩) hHeld ?_
                rotate_left
                · intro W hSw
                  (try dsimp only at hSw)
                  go_simp
                  (try with_reducible rfl)
                (try simp only [Act.put, List.setIfInBounds_toArray, List.set_cons_zero, List.set_cons_succ])
                refine wpAnyH_ready (rs := [0]) (by kernel_rfl) (by simp) ?_
                refine AllReadyH.cons (o := { dst := Option.some 69, op := Go.Op.load 43 (Go.Operand.tmp 6), type := 43, pos := "ref.go:116", after := #[], guard := Option.none }) rfl (fun K hK => ?_) AllReadyH.nil
                rw [if_pos (by rfl)]
                refine wp_load_row 43 _ rfl SB rfl 43 SV.toArray (0, 0) _ HH.out Tryz.underlying43 rfl IS.out ?_
                refine hK.out _ _ trivial (fun hHeld => ?_)
                clear hK K
                (try simp only [Act.put, List.setIfInBounds_toArray, List.set_cons_zero, List.set_cons_succ])
                refine wpAnyH_ready (rs := [5]) (by kernel_rfl) (by simp) ?_
                refine AllReadyH.cons (o := { dst := Option.some 74, op := Go.Op.call { callee := Go.Callee.value (Go.Operand.func 45), args := #[Go.Operand.tmp 69, Go.Operand.tmp 72, Go.Operand.tmp 73], argTypes := #[43, 5, 3] }, type := 43, pos := "ref.go:116", after := #[{ on := 0, ground := Go.Ground.data }, { on := 3, ground := Go.Ground.data }, { on := 4, ground := Go.Ground.data }], guard := Option.none }) rfl (fun K hK => ?_) AllReadyH.nil
                go_simp
                go_at_call 45
                refine (W45.out _).mono ?_
                rintro e w8 ⟨rfl, b8⟩
                have K8 := hid (HA.out.drew.later b8)
                clear b8
                have H8 := hid K8.out.1.2.1
                have K9 := hid (K8.out.setRow (vs' := SV2))
                refine hK.out _ _ trivial (fun hHeld => ?_)
                clear hK K
                (try simp only [Act.put, List.setIfInBounds_toArray, List.set_cons_zero, List.set_cons_succ])
                refine wpAnyH_ready (rs := [6]) (by kernel_rfl) (by simp) ?_
                refine AllReadyH.cons (o := { dst := Option.none, op := Go.Op.store 43 (Go.Operand.tmp 6) (Go.Operand.tmp 74), type := 0, pos := "ref.go:116", after := #[{ on := 5, ground := Go.Ground.data }, { on := 5, ground := Go.Ground.chain }, { on := 0, ground := Go.Ground.phase }, { on := 1, ground := Go.Ground.phase }, { on := 2, ground := Go.Ground.phase }, { on := 3, ground := Go.Ground.phase }, { on := 4, ground := Go.Ground.phase }, { on := 5, ground := Go.Ground.phase }], guard := Option.none }) rfl (fun K hK => ?_) AllReadyH.nil
                rw [if_pos (by rfl)]
                refine wp_store_row 43 _ _ rfl SB SV2.toArray rfl rfl 43 _ H8.out IS2.out ZS2.out OS2.out ?_
                refine hK.out _ _ trivial (fun hHeld => ?_)
                clear hK K
                (try simp only [Act.put])
                refine wpAnyH_done (by kernel_rfl) ?_ _
                clear hHeld
                go_wp2
                go_roundw
                case rel => exact ⟨i + 1, s2, by omega, by omega, by go_num, by go_num, HJ, nx, hid (by rw [HSV2.out]; exact K9.out)⟩
                case measure => simp [intOf]; omega
            · rw [if_neg hat] at SG
              have hat1 : (n : Int) ≤ (i : Int) + 1 := by omega
              have fin : Hid (G = (.zero, 171)) := hid SG.out
              have K4 := hid HA.out.swap
              have H4 := hid K4.out.1.2.1
              have K5 := hid (K4.out.setRow (vs' := zv))
              clear SG CE NU AH
              go_wp2_with (first | (refine wpList_build rfl 43 _ rfl (by kernel_rfl) ?_) | (refine wpList_store_row rfl 43 _ _ rfl R zv.toArray rfl (by kernel_rfl) 43 _ H4.out IZ.out rfl OZ.out ?_))
              refine ret2 rfl rfl rfl (ld43 K5.out.1.2.1 rfl) rfl ?_
              exact ⟨by rw [fin.out]; rfl, K5.out.tail.tail⟩
        · have hlt' : ¬ (i : Int) < (nf : Int) := by omega
          have ei : i = nf := by omega
          have ed : lt.drop i = [] := List.drop_of_length_le (by have := FL.out; omega)
          rw [ed] at hGo
          have hlast : ∀ m, nf = m + 1 → ((f.getD m 0).toNat : Int) ≠ 111 := fun m hm h => by
            have h2 : (f.getD m 0).toNat = 111 := by omega
            exact hJ.out m (by omega) (u8_eq h2)
          have HL := hid hlast
          have fin1 : Hid (i + 1 < n → G = (.zero, 171)) := hid (fun h => by rw [hGo.out, sgo, if_neg (DP.out _ h)])
          have fin2 : Hid (¬ i + 1 < n → G = (s, 0)) := hid (fun h => by rw [hGo.out, DN.out _ (by omega), sgo, if_pos rfl])
          have HS := hid HA.out.1.2.1
          have K4 := hid HA.out.swap
          have H4 := hid K4.out.1.2.1
          have K5 := hid (K4.out.setRow (vs' := zv))
          have K5' := hid (K4.out.setRow (vs' := s.vals))
          clear hlast hJ ed hGo CE NU AH CUT HS' DN DP LC2 FL FA HA ei
          generalize hSV : s.vals = SV at *
          have HSV := hid hSV
          clear hSV
          cases nf with
          | zero =>
            clear IX HL
            by_cases hat : i + 1 < n
            · have hat2 : (i : Int) + 1 < (n : Int) := by omega
              have fin := hid (fin1.out hat)
              clear fin1 fin2
              go_wp2_with (first | (refine wpList_build rfl 43 _ rfl (by kernel_rfl) ?_) | (refine wpList_store_row rfl 43 _ _ rfl R zv.toArray rfl (by kernel_rfl) 43 _ H4.out IZ.out rfl OZ.out ?_))
              refine ret2 rfl rfl rfl (ld43 K5.out.1.2.1 rfl) rfl ?_
              exact ⟨by rw [fin.out]; rfl, K5.out.tail.tail⟩
            · have hat2 : ¬ (i : Int) + 1 < (n : Int) := by omega
              have fin := hid (fin2.out hat)
              clear fin1 fin2
              go_wp2_with (first | (refine wpList_load_row rfl 43 _ rfl SB rfl 43 SV.toArray (0, 0) _ HS.out Tryz.underlying43 rfl IS.out ?_) | (refine wpList_store_row rfl 43 _ _ rfl R SV.toArray rfl rfl 43 _ H4.out IS.out ZS.out OS.out ?_))
              refine ret2 rfl rfl rfl (ld43 K5'.out.1.2.1 LS.out) rfl ?_
              exact ⟨by rw [fin.out]; show _ = Ending.returned (.tuple #[.agg s.vals.toArray, .int .i64 0]); rw [HSV.out]; rfl, K5'.out.tail.tail⟩
          | succ m =>
            have ix := IX.out m (by omega)
            have hb := HL.out m rfl
            generalize (f.getD m 0).toNat = b at *
            have hb' : ((b : Int) == 111) = false := by simpa using hb
            have wf : IntKind.i64.wrap ((m : Int) + 1 - 1) = (m : Int) := by rw [IntKind.wrap_i64]; omega
            have hgt : (0 : Int) < (m : Int) + 1 := by omega
            clear IX HL hb
            by_cases hat : i + 1 < n
            · have hat2 : (i : Int) + 1 < (n : Int) := by omega
              have fin := hid (fin1.out hat)
              clear fin1 fin2
              go_wp2_with (first | (refine wpList_build rfl 43 _ rfl (by kernel_rfl) ?_) | (refine wpList_store_row rfl 43 _ _ rfl R zv.toArray rfl (by kernel_rfl) 43 _ H4.out IZ.out rfl OZ.out ?_))
              refine ret2 rfl rfl rfl (ld43 K5.out.1.2.1 rfl) rfl ?_
              exact ⟨by rw [fin.out]; rfl, K5.out.tail.tail⟩
            · have hat2 : ¬ (i : Int) + 1 < (n : Int) := by omega
              have fin := hid (fin2.out hat)
              clear fin1 fin2
              go_wp2_with (first | (refine wpList_load_row rfl 43 _ rfl SB rfl 43 SV.toArray (0, 0) _ HS.out Tryz.underlying43 rfl IS.out ?_) | (refine wpList_store_row rfl 43 _ _ rfl R SV.toArray rfl rfl 43 _ H4.out IS.out ZS.out OS.out ?_))
              refine ret2 rfl rfl rfl (ld43 K5'.out.1.2.1 LS.out) rfl ?_
              exact ⟨by rw [fin.out]; show _ = Ending.returned (.tuple #[.agg s.vals.toArray, .int .i64 0]); rw [HSV.out]; rfl, K5'.out.tail.tail⟩
end Go.Proofs.YtblojlaifnmimaaGreatDoor
