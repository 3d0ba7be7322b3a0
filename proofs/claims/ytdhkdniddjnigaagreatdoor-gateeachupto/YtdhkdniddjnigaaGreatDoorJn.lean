import Derived.Test.YtdhkdniddjnigaaGreatDoorWd
namespace Go.Proofs.YtdhkdniddjnigaaGreatDoor
set_option linter.unusedVariables false

/-- A digit of a byte's two. -/
def hexD (n : Nat) : UInt8 := if n < 10 then UInt8.ofNat (48 + n) else UInt8.ofNat (87 + n)
theorem hexD_nat {n : Nat} (h : n < 16) : (hexD n).toNat = if n < 10 then 48 + n else 87 + n := by
  unfold hexD
  split <;> simp <;> omega
theorem hexN_hexD {n : Nat} (h : n < 16) : hexN (hexD n).toNat = some n := by
  have hh : ∀ a : Fin 16, hexN (hexD a.val).toNat = some a.val := by decide
  exact hh ⟨n, h⟩
theorem hexD_hexN {b : UInt8} {d : Nat} (h : hexN b.toNat = some d) : hexD d = b := by
  apply UInt8.toNat_inj.1
  have hd := hexN_lt h
  rw [hexD_nat hd]
  unfold hexN at h
  split at h
  · simp only [Option.some.injEq] at h; subst h; rw [if_pos (by omega)]; omega
  · split at h
    · simp only [Option.some.injEq] at h; subst h; rw [if_neg (by omega)]; omega
    · simp at h
/-- A byte within quotes, as it is written. -/
def escB (b : UInt8) : List UInt8 := if prnN b.toNat = true then (if b.toNat = 34 ∨ b.toNat = 92 then [92, b] else [b]) else [92, 120, hexD (b.toNat / 16), hexD (b.toNat % 16)]
def escW (x : List UInt8) : List UInt8 := x.flatMap escB
theorem escW_snoc (x : List UInt8) (b : UInt8) : escW (x ++ [b]) = escW x ++ escB b := by simp [escW]
/-- A word as it is written. -/
def wrtW (x : List UInt8) : List UInt8 := if isBareW x = true then x else 34 :: (escW x ++ [34])
def tailW (ws : Ws) : List UInt8 := ws.flatMap fun x => 32 :: wrtW x
/-- A line of words. -/
def joinW : Ws → List UInt8
  | [] => []
  | x :: r => wrtW x ++ tailW r
/-- What stands ahead of the next word. -/
def preW (ws : Ws) : List UInt8 := if ws = [] then [] else joinW ws ++ [32]
theorem joinW_snoc (ws : Ws) (x : List UInt8) : joinW (ws ++ [x]) = preW ws ++ wrtW x := by
  cases ws with
  | nil => simp [joinW, preW, tailW]
  | cons a r => simp [joinW, preW, tailW]

theorem runW_cons {s s' : St} {ws ws' : Ws} {k : Nat} {b : UInt8} {t : List UInt8} (h : stepW s ws k b = .go s' ws') : runW s ws k (b :: t) = runW s' ws' (k + 1) t := by rw [runW, h]

theorem run_bare : ∀ (r a t : List UInt8) (ws : Ws) (k : Nat), (∀ b ∈ r, bareN b.toNat = true) → runW (.bare a) ws k (r ++ t) = runW (.bare (a ++ r)) ws (k + r.length) t
  | [], a, t, ws, k, h => by simp
  | b :: r, a, t, ws, k, h => by
    rw [List.cons_append, runW_cons (s' := .bare (a ++ [b])) (ws' := ws) (by simp only [stepW]; rw [if_pos (h b (by simp))]), run_bare r _ _ _ _ (fun c hc => h c (by simp [hc]))]
    simp only [List.append_assoc, List.singleton_append, List.length_cons]
    congr 1
    omega

theorem n_of (n : Nat) (h : n < 256) : (UInt8.ofNat n).toNat = n := by simp; omega

theorem run_byte (b : UInt8) (o : Nat) (a t : List UInt8) (ws : Ws) (k : Nat) : runW (.quote o a) ws k (escB b ++ t) = runW (.quote o (a ++ [b])) ws (k + (escB b).length) t := by
  unfold escB
  by_cases hp : prnN b.toNat = true
  · rw [if_pos hp]
    by_cases hq : b.toNat = 34 ∨ b.toNat = 92
    · rw [if_pos hq, List.cons_append, runW_cons (s' := .esc o a k) (ws' := ws) (by simp [stepW]), List.cons_append, runW_cons (s' := .quote o (a ++ [b])) (ws' := ws) (by simp only [stepW]; rw [if_neg (by omega), if_pos hq])]
      rfl
    · rw [if_neg hq, List.cons_append, runW_cons (s' := .quote o (a ++ [b])) (ws' := ws) (by simp only [stepW]; rw [if_neg (by omega), if_neg (by omega), if_pos hp])]
      rfl
  · rw [if_neg hp, List.cons_append, runW_cons (s' := .esc o a k) (ws' := ws) (by simp [stepW]), List.cons_append, runW_cons (s' := .high o a k) (ws' := ws) (by simp [stepW])]
    have hb := b.toNat_lt
    rw [List.cons_append, runW_cons (s' := .low o a k (b.toNat / 16)) (ws' := ws) (by simp only [stepW]; rw [hexN_hexD (by omega)]), List.cons_append]
    have e : 16 * (b.toNat / 16) + b.toNat % 16 = b.toNat := by omega
    rw [runW_cons (s' := .quote o (a ++ [b])) (ws' := ws) (by
      simp only [stepW]
      rw [hexN_hexD (by omega)]
      simp only
      rw [e, if_neg hp]
      simp)]
    rfl
theorem run_esc : ∀ (x a t : List UInt8) (o : Nat) (ws : Ws) (k : Nat), runW (.quote o a) ws k (escW x ++ t) = runW (.quote o (a ++ x)) ws (k + (escW x).length) t
  | [], a, t, o, ws, k => by simp [escW]
  | b :: x, a, t, o, ws, k => by
    have e : escW (b :: x) = escB b ++ escW x := by simp [escW]
    rw [e, List.append_assoc, run_byte, run_esc x]
    simp only [List.append_assoc, List.singleton_append, List.length_append]
    congr 1
    omega
theorem bareW_all {x : List UInt8} (h : isBareW x = true) : x ≠ [] ∧ ∀ b ∈ x, bareN b.toNat = true := of_decide_eq_true h
theorem bare_no {b : UInt8} (h : bareN b.toNat = true) : b.toNat ≠ 32 ∧ b.toNat ≠ 34 ∧ b.toNat ≠ 92 := by
  refine ⟨fun e => ?_, fun e => ?_, fun e => ?_⟩ <;> (rw [e] at h; simp [bareN] at h)
/-- A written word is read. -/
theorem run_word (x : List UInt8) (t : List UInt8) (ws : Ws) (k : Nat) (h : t = [] ∨ ∃ t', t = 32 :: t') :
    runW .ahead ws k (wrtW x ++ t) = runW .closed (ws ++ [x]) (k + (wrtW x).length) t := by
  unfold wrtW
  cases hx : isBareW x with
  | true =>
    rw [if_pos rfl]
    obtain ⟨hne, hall⟩ := bareW_all hx
    cases x with
    | nil => exact absurd rfl hne
    | cons b r =>
      have hb := hall b (by simp)
      obtain ⟨n1, n2, n3⟩ := bare_no hb
      rw [List.cons_append, runW_cons (s' := .bare [b]) (ws' := ws) (by simp only [stepW]; rw [if_neg n1, if_neg n2, if_pos hb]), run_bare r _ _ _ _ (fun c hc => hall c (by simp [hc]))]
      have e : k + 1 + r.length = k + (b :: r).length := by simp; omega
      rw [e, List.singleton_append]
      rcases h with rfl | ⟨t', rfl⟩
      · rfl
      · rw [runW_cons (s' := .ahead) (ws' := ws ++ [b :: r]) (by simp [stepW, bareN]), runW_cons (s' := .ahead) (ws' := ws ++ [b :: r]) (by simp [stepW])]
  | false =>
    rw [if_neg (by simp), List.cons_append, runW_cons (s' := .quote k []) (ws' := ws) (by simp [stepW]), List.append_assoc, run_esc, List.nil_append, List.singleton_append, runW_cons (s' := .closed) (ws' := ws ++ [x]) (by simp [stepW, hx])]
    congr 1
    simp
    omega
theorem run_tail : ∀ (r : Ws) (ws : Ws) (k : Nat), runW .closed ws k (tailW r) = .ok (ws ++ r)
  | [], ws, k => by simp [tailW, runW, finW]
  | x :: r, ws, k => by
    have e : tailW (x :: r) = 32 :: (wrtW x ++ tailW r) := by simp [tailW]
    rw [e, runW_cons (s' := .ahead) (ws' := ws) (by simp [stepW]), run_word, run_tail r]
    · simp
    · cases r with
      | nil => exact Or.inl rfl
      | cons y r => exact Or.inr ⟨_, by simp [tailW]; rfl⟩
/-- Split of Join. -/
theorem run_join (ws : Ws) : runW .ahead [] 0 (joinW ws) = .ok ws := by
  cases ws with
  | nil => rfl
  | cons x r =>
    rw [joinW, run_word, run_tail]
    · simp
    · cases r with
      | nil => exact Or.inl rfl
      | cons y r => exact Or.inr ⟨_, by simp [tailW]; rfl⟩
end Go.Proofs.YtdhkdniddjnigaaGreatDoor
