import Derived.Test.YtdhkdniddjnigaaGreatDoorSpl
namespace Go.Proofs.YtdhkdniddjnigaaGreatDoor
open Go.RowKit
set_option linter.unusedVariables false

/-- What the document's digit tells. -/
def hexI (k : Int) : Int := if 48 ≤ k ∧ k ≤ 57 then k - 48 else if 97 ≤ k ∧ k ≤ 102 then k - 87 else -1
theorem hexI_nat (n : Nat) : hexI (n : Int) = match hexN n with | none => -1 | some d => (d : Int) := by
  unfold hexI hexN
  by_cases h1 : 48 ≤ n ∧ n ≤ 57
  · rw [if_pos (by omega), if_pos h1]; simp only; omega
  · rw [if_neg (by omega), if_neg h1]
    by_cases h2 : 97 ≤ n ∧ n ≤ 102
    · rw [if_pos (by omega), if_pos h2]; simp only; omega
    · rw [if_neg (by omega), if_neg h2]
set_option maxRecDepth 1000000 in
theorem rdigit_int (k : Int) (w : World) (h0 : 0 ≤ k) (h1 : k < 256) : Calls Tryz.prog 181 #[.int .u8 k] w fun e w' => e = .returned (.int .i64 (hexI k)) ∧ w' = w := by
  have key : ∀ b, hexI k = b → Hid (hexI k = b) := fun b h => h
  by_cases a48 : 48 ≤ k
  · by_cases b57 : k ≤ 57
    · have H := key (k - 48) (by unfold hexI; rw [if_pos ⟨a48, b57⟩])
      clear key
      go_enter Tryz.func181, Tryz.ntmps181
      go_wp2
      go_ret
      exact ⟨by rw [H.out]; rfl, rfl⟩
    · by_cases a97 : 97 ≤ k
      · by_cases b102 : k ≤ 102
        · have H := key (k - 97 + 10) (by unfold hexI; rw [if_neg (by omega), if_pos ⟨a97, b102⟩]; omega)
          clear key
          go_enter Tryz.func181, Tryz.ntmps181
          go_wp2
          go_ret
          exact ⟨by rw [H.out]; rfl, rfl⟩
        · have H := key (-1) (by unfold hexI; rw [if_neg (by omega), if_neg (by omega)])
          clear key
          go_enter Tryz.func181, Tryz.ntmps181
          go_wp2
          go_ret
          exact ⟨by rw [H.out]; rfl, rfl⟩
      · have H := key (-1) (by unfold hexI; rw [if_neg (by omega), if_neg (by omega)])
        clear key
        go_enter Tryz.func181, Tryz.ntmps181
        go_wp2
        go_ret
        exact ⟨by rw [H.out]; rfl, rfl⟩
  · have a97 : ¬ 97 ≤ k := by omega
    have H := key (-1) (by unfold hexI; rw [if_neg (by omega), if_neg (by omega)])
    clear key
    go_enter Tryz.func181, Tryz.ntmps181
    go_wp2
    go_ret
    exact ⟨by rw [H.out]; rfl, rfl⟩
theorem rdigit_any (b : UInt8) (w : World) : Calls Tryz.prog 181 #[.int .u8 (b.toNat : Int)] w fun e w' => e = .returned (.int .i64 (match hexN b.toNat with | none => -1 | some d => (d : Int))) ∧ w' = w := by
  rw [← hexI_nat]
  exact rdigit_int _ _ (by omega) (by have := b.toNat_lt; omega)

/-- What the document's quoted answers: the word and the place behind its end; else a place and an error. -/
def QPost (AN : Ans) (l : List UInt8) (o : Nat) (ws : Ws) (cs : List Comp) (e : Ending) (w' : World) : Prop :=
  ∃ (x : List UInt8) (k er : Nat), e = .returned (.tuple #[.string ⟨x.toArray⟩, .int .i64 (k : Int), .int .i64 (er : Int)]) ∧ All cs w' ∧
    (er = 0 ∧ k ≤ l.length ∧ o < k ∧ AN = runW .closed (ws ++ [x]) k (l.drop k) ∨ er ≠ 0 ∧ AN.at = k ∧ AN.err = er ∧ AN.ws = [])

/-- Two digits on their way. -/
def Inn (AN : Ans) (l : List UInt8) (o i : Nat) (x : List UInt8) (ws : Ws) (j v : Nat) : Prop :=
  match j with
  | 0 => v = 0 ∧ AN = runW (.high o x i) ws (i + 2) (l.drop (i + 2))
  | 1 => v < 16 ∧ AN = runW (.low o x i v) ws (i + 3) (l.drop (i + 3))
  | _ => v < 256 ∧ i + 4 ≤ l.length ∧ AN = if prnN v = true then .byte i else runW (.quote o (x ++ [UInt8.ofNat v])) ws (i + 4) (l.drop (i + 4))

theorem Inn.next {AN : Ans} {l : List UInt8} {o i : Nat} {x : List UInt8} {ws : Ws} {j v d : Nat} (h : Inn AN l o i x ws j v) (hj : j < 2) (hl : i + 2 + j < l.length) (hd : hexN (l.getD (i + 2 + j) 0).toNat = some d) : Inn AN l o i x ws (j + 1) (16 * v + d) := by
  have hlt := hexN_lt hd
  match j with
  | 0 =>
    obtain ⟨rfl, h⟩ := h
    refine ⟨by omega, ?_⟩
    rw [h, runW_go hl (s' := .low o x i d) (ws' := ws) (by simp only [stepW]; rw [show i + 2 + 0 = i + 2 from rfl] at hd; rw [hd])]
    simp
  | 1 =>
    obtain ⟨h1, h⟩ := h
    refine ⟨by omega, by omega, ?_⟩
    rw [h]
    by_cases hp : prnN (16 * v + d) = true
    · rw [if_pos hp, runW_bad hl (j := i) (by simp only [stepW]; rw [show i + 2 + 1 = i + 3 from rfl] at hd; rw [hd]; simp only; rw [if_pos hp])]
    · rw [if_neg hp, runW_go hl (s' := .quote o (x ++ [UInt8.ofNat (16 * v + d)])) (ws' := ws) (by simp only [stepW]; rw [show i + 2 + 1 = i + 3 from rfl] at hd; rw [hd]; simp only; rw [if_neg hp])]
  | j + 2 => omega
theorem Inn.bad {AN : Ans} {l : List UInt8} {o i : Nat} {x : List UInt8} {ws : Ws} {j v : Nat} (h : Inn AN l o i x ws j v) (hj : j < 2) (hl : i + 2 + j < l.length) (hd : hexN (l.getD (i + 2 + j) 0).toNat = none) : AN = .byte (i + 2 + j) := by
  match j with
  | 0 => rw [h.2]; exact runW_bad hl (by simp only [stepW]; rw [show i + 2 + 0 = i + 2 from rfl] at hd; rw [hd])
  | 1 => rw [h.2]; exact runW_bad hl (by simp only [stepW]; rw [show i + 2 + 1 = i + 3 from rfl] at hd; rw [hd])
  | j + 2 => omega
theorem Inn.stop {AN : Ans} {l : List UInt8} {o i : Nat} {x : List UInt8} {ws : Ws} {j v : Nat} (h : Inn AN l o i x ws j v) (hj : j < 2) (hl : l.length ≤ i + 2 + j) : AN = .stop (i + 2 + j) := by
  match j with
  | 0 => rw [h.2]; exact runW_end hl
  | 1 => rw [h.2]; exact runW_end hl
  | j + 2 => omega
theorem Inn.small {AN : Ans} {l : List UInt8} {o i : Nat} {x : List UInt8} {ws : Ws} {j v : Nat} (h : Inn AN l o i x ws j v) : v < 256 := by
  match j with
  | 0 => have := h.1; omega
  | 1 => have := h.1; omega
  | j + 2 => exact h.1
end Go.Proofs.YtdhkdniddjnigaaGreatDoor
