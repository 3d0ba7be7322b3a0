import Derived.Test.YtblojlaifnmimaaGreatDoorBk
namespace Go.Proofs.YtblojlaifnmimaaGreatDoor
set_option linter.unusedVariables false

theorem zle : (0 : Int) ≤ 9223372036854775807 := by decide
theorem hexD_ne {n : Nat} (h : n < 16) : hexD n ≠ 10 := by
  intro e
  have := hexD_nat h
  rw [e] at this
  simp at this
  split at this <;> omega
theorem escB_nl (b : UInt8) : ∀ x ∈ escB b, x ≠ 10 := by
  intro x hx
  unfold escB at hx
  have hb := UInt8.toNat_lt b
  split at hx
  · rename_i hp
    have hp : 32 ≤ b.toNat ∧ b.toNat ≤ 126 := of_decide_eq_true hp
    have hbn : b ≠ 10 := fun e => by subst e; simp at hp
    split at hx
    · simp only [List.mem_cons, List.not_mem_nil, or_false] at hx
      rcases hx with rfl | rfl
      · decide
      · exact hbn
    · simp only [List.mem_cons, List.not_mem_nil, or_false] at hx
      subst hx
      exact hbn
  · simp only [List.mem_cons, List.not_mem_nil, or_false] at hx
    rcases hx with rfl | rfl | rfl | rfl
    · decide
    · decide
    · exact hexD_ne (by omega)
    · exact hexD_ne (by omega)
theorem wrtW_nl (x : List UInt8) : ∀ b ∈ wrtW x, b ≠ 10 := by
  intro b hb
  unfold wrtW at hb
  split at hb
  · rename_i hx
    have h1 := (bareW_all hx).2 b hb
    have h2 : (97 ≤ b.toNat ∧ b.toNat ≤ 122) ∨ (65 ≤ b.toNat ∧ b.toNat ≤ 90) ∨ (48 ≤ b.toNat ∧ b.toNat ≤ 57) ∨ b.toNat = 45 ∨ b.toNat = 95 ∨ b.toNat = 46 ∨ b.toNat = 47 := of_decide_eq_true h1
    intro e
    subst e
    simp at h2
  · rcases List.mem_cons.1 hb with rfl | hb
    · decide
    · rcases List.mem_append.1 hb with hb | hb
      · unfold escW at hb
        obtain ⟨y, _, h⟩ := List.mem_flatMap.1 hb
        exact escB_nl y b h
      · simp only [List.mem_cons, List.not_mem_nil, or_false] at hb
        subst hb
        decide
theorem tailW_nl (ws : Ws) : ∀ b ∈ tailW ws, b ≠ 10 := by
  intro b hb
  unfold tailW at hb
  obtain ⟨y, _, h⟩ := List.mem_flatMap.1 hb
  rcases List.mem_cons.1 h with rfl | h
  · decide
  · exact wrtW_nl y b h
theorem joinW_cons (x : List UInt8) (r : Ws) : joinW (x :: r) = wrtW x ++ tailW r := by simp [joinW]
theorem joinW_nl (ws : Ws) : ∀ b ∈ joinW ws, b ≠ 10 := by
  cases ws with
  | nil => intro b hb; simp [joinW] at hb
  | cons x r =>
    intro b hb
    rw [joinW_cons] at hb
    rcases List.mem_append.1 hb with hb | hb
    · exact wrtW_nl x b hb
    · exact tailW_nl r b hb
theorem lines_line {a r : List UInt8} (h : ∀ b ∈ a, b ≠ 10) : linesW [] (a ++ (10 :: r)) = a :: linesW [] r := by
  have key : ∀ (t acc : List UInt8), (∀ b ∈ t, b ≠ 10) → linesW acc (t ++ (10 :: r)) = (acc ++ t) :: linesW [] r := by
    intro t
    induction t with
    | nil => intro acc _; simp [linesW]
    | cons x t ih =>
      intro acc hx
      rw [List.cons_append, linesW, if_neg (hx x (by simp)), ih _ (fun b hb => hx b (by simp [hb]))]
      simp
  have := key a [] h
  simpa using this
theorem lines_text : ∀ (ss : List Sp) (t : List UInt8), linesW [] ((ss.flatMap fun s => lineP (stepWs s)) ++ t) = ss.map (fun s => joinW (stepWs s)) ++ linesW [] t
  | [], t => by simp
  | s :: r, t => by
    rw [List.flatMap_cons, List.append_assoc]
    unfold lineP
    rw [List.append_assoc]
    show linesW [] (joinW (stepWs s) ++ (10 :: _)) = _
    rw [lines_line (joinW_nl _)]
    have := lines_text r t
    unfold lineP at this
    show joinW (stepWs s) :: linesW [] ((r.flatMap fun s => joinW (stepWs s) ++ [10]) ++ t) = _
    rw [this]
    simp
theorem lines_print (c : List Int) (ss : List Sp) : linesW [] (textP c ss) = joinW (headWs c) :: (ss.map (fun s => joinW (stepWs s)) ++ [[]]) := by
  unfold textP
  rw [show lineP (headWs c) ++ (ss.flatMap fun s => lineP (stepWs s)) = joinW (headWs c) ++ (10 :: ((ss.flatMap fun s => lineP (stepWs s)) ++ [])) by simp [lineP]]
  rw [lines_line (joinW_nl _), lines_text]
  rfl
theorem split_join {ws : Ws} (h : lenJ ws ≤ 8000) : splitW (joinW ws) = .ok ws := by
  unfold splitW
  have := joinW_len ws ws.length (Nat.le_refl _)
  rw [List.take_length] at this
  rw [if_neg (by omega)]
  exact run_join ws
/-- A line whose first word begins with a letter is not passed over. -/
theorem pass_join {x : List UInt8} {r : Ws} (hx : isBareW x = true) : passW (joinW (x :: r)) = false := by
  rw [joinW_cons]
  unfold wrtW
  rw [if_pos hx]
  obtain ⟨hne, hb⟩ := bareW_all hx
  cases x with
  | nil => exact absurd rfl hne
  | cons b t =>
    have h1 := hb b (by simp)
    have h2 : (97 ≤ b.toNat ∧ b.toNat ≤ 122) ∨ (65 ≤ b.toNat ∧ b.toNat ≤ 90) ∨ (48 ≤ b.toNat ∧ b.toNat ≤ 57) ∨ b.toNat = 45 ∨ b.toNat = 95 ∨ b.toNat = 46 ∨ b.toNat = 47 := of_decide_eq_true h1
    rw [List.cons_append, passW, if_neg (by rintro (rfl | rfl) <;> simp at h2)]
    refine decide_eq_false (fun e => ?_)
    subst e
    simp at h2
theorem numsW_back : ∀ {c : List Int}, (∀ n ∈ c, 0 ≤ n ∧ n ≤ 1024) → numsW (c.map fun n => Lib.decDigits n.toNat) = some c
  | [], _ => rfl
  | n :: r, h => by
    have h1 := h n (by simp)
    rw [List.map_cons, numsW, num_back h1.1 (by omega)]
    simp only
    rw [numsW_back (fun m hm => h m (by simp [hm]))]
    simp only
    rw [Int.toNat_of_nonneg h1.1]
theorem head_back {c : List Int} (hc : c.length = 10) (h : ∀ n ∈ c, 0 ≤ n ∧ n ≤ 1024) : headR (headWs c) = some c := by
  unfold headR
  rw [if_pos ⟨headWs_len hc, rfl⟩]
  exact numsW_back h
theorem snN_bare {k : Nat} (hk1 : 1 ≤ k) (hk13 : k ≤ 13) : isBareW (snN k) = true := by
  obtain rfl | rfl | rfl | rfl | rfl | rfl | rfl | rfl | rfl | rfl | rfl | rfl | rfl : k = 1 ∨ k = 2 ∨ k = 3 ∨ k = 4 ∨ k = 5 ∨ k = 6 ∨ k = 7 ∨ k = 8 ∨ k = 9 ∨ k = 10 ∨ k = 11 ∨ k = 12 ∨ k = 13 := by omega
  all_goals decide
theorem pass_step {s : Sp} (h : stepE s = 0) : passW (joinW (stepWs s)) = false := by
  have hm : mayS s = true := by
    unfold stepE at h
    cases hm : mayS s
    · rw [hm, if_pos rfl] at h; simp at h
    · rfl
  obtain ⟨h1, h13, _⟩ := mayS_true hm
  unfold stepWs
  rw [if_neg (by rw [h]; simp)]
  exact pass_join (snN_bare (by omega) (by omega))
theorem go_steps : ∀ (ss pre : List Sp) (c : List Int) (i : Nat), (∀ s ∈ ss, spI s ∧ stepE s = 0) → pre.length + ss.length ≤ 4000 → goL i ⟨some c, pre⟩ (ss.map (fun s => joinW (stepWs s)) ++ [[]]) = .ok c (pre ++ ss)
  | [], pre, c, i, _, _ => by simp [goL, passW]
  | s :: r, pre, c, i, h, hl => by
    obtain ⟨hI, hE⟩ := h s (by simp)
    have hsp : splitW (joinW (stepWs s)) = .ok (stepWs s) := split_join (by
      have h1 := lenJ_small (stepWs_mem hI)
      have h2 := stepWs_len s
      omega)
    have hl1 : pre.length ≠ 4000 := by simp only [List.length_cons] at hl; omega
    have hline : lineL ⟨some c, pre⟩ (joinW (stepWs s)) = .go ⟨some c, pre ++ [s]⟩ := by
      unfold lineL
      rw [hsp]
      show (if (0 : Nat) ≠ 0 then _ else wordsL ⟨some c, pre⟩ (stepWs s)) = _
      rw [if_neg (by simp)]
      unfold wordsL
      rw [if_neg (by simp)]
      unfold stepL
      rw [if_neg hl1, step_back hI hE, if_neg (by simp)]
    rw [List.map_cons, List.cons_append, goL, pass_step hE, if_neg (by simp), hline]
    show goL (i + 1) ⟨some c, pre ++ [s]⟩ _ = _
    rw [go_steps r (pre ++ [s]) c (i + 1) (fun x hx => h x (by simp [hx])) (by simp only [List.length_append, List.length_cons, List.length_nil] at *; omega)]
    simp
theorem badS_zero : ∀ {ss : List Sp}, badS ss = 0 → ∀ s ∈ ss, stepE s = 0
  | [], _, s, hs => by cases hs
  | x :: r, h, s, hs => by
    rw [badS] at h
    split at h
    · rename_i hx; exact absurd h hx
    · rename_i hx
      rcases List.mem_cons.1 hs with rfl | hs
      · exact Classical.byContradiction hx
      · exact badS_zero h s hs
/-- What is written is read back. -/
theorem parse_print {c : List Int} {ss : List Sp} (hc : c.length = 10) (hI : ∀ s ∈ ss, spI s) (h : printE c ss = 0) : parseW (printT c ss) = .ok c ss := by
  have hT : printT c ss = textP c ss := by unfold printT; rw [h]; rfl
  rw [hT]
  unfold printE at h
  by_cases h1 : cfgL c ≠ 0
  · rw [if_pos h1] at h; exact absurd h h1
  rw [if_neg h1] at h
  have hc0 : cfgL c = 0 := Classical.byContradiction h1
  by_cases h2 : 4000 < ss.length
  · rw [if_pos h2] at h; simp at h
  rw [if_neg h2] at h
  by_cases h3 : badS ss ≠ 0
  · rw [if_pos h3] at h; exact absurd h h3
  rw [if_neg h3] at h
  have hb0 : badS ss = 0 := Classical.byContradiction h3
  by_cases h4 : 65536 < (textP c ss).length
  · rw [if_pos h4] at h; simp at h
  unfold parseW
  rw [if_neg h4, lines_print]
  have hn := cfgL_nat hc hc0
  have hsp : splitW (joinW (headWs c)) = .ok (headWs c) := split_join (by
    have h1 := lenJ_small (headWs_mem hn)
    rw [headWs_len hc] at h1
    omega)
  have hline : lineL ⟨none, []⟩ (joinW (headWs c)) = .go ⟨some c, []⟩ := by
    unfold lineL
    rw [hsp]
    show (if (0 : Nat) ≠ 0 then _ else wordsL ⟨none, []⟩ (headWs c)) = _
    rw [if_neg (by simp)]
    show headL ⟨none, []⟩ (headWs c) = _
    unfold headL
    rw [head_back hc hn]
    show (if cfgL c ≠ 0 then _ else _) = _
    rw [if_neg h1]
  rw [goL, show passW (joinW (headWs c)) = false from pass_join (by decide), if_neg (by simp), hline]
  show goL (0 + 1) ⟨some c, []⟩ _ = _
  rw [go_steps ss [] c (0 + 1) (fun s hs => ⟨hI s hs, badS_zero hb0 s hs⟩) (by simp; omega)]
  rfl

/-- What is read may be written. -/
theorem op_read {ws : Ws} (h : (readO ws).e = 0) : opE (readO ws).o.toI = 0 := (readO_ok h).1
theorem sgo_good {k : Nat} (hk1 : 1 ≤ k) (hk13 : k ≤ 13) {ws : Ws} {s : Sp} (h : sgo (slN k) ws ⟨(k : Int), 0, 0, 0, 0, .zero⟩ = (s, 0)) : s.k = k ∧ posS (slN k) s = true ∧ onlyS (slN k) s ⟨(k : Int), 0, 0, 0, 0, .zero⟩ = s ∧ (79 ∈ slN k → opE s.o = 0) ∧ spI s := by
  revert h
  refine kinds13 (P := fun k lt => sgo lt ws ⟨(k : Int), 0, 0, 0, 0, .zero⟩ = (s, 0) → s.k = k ∧ posS lt s = true ∧ onlyS lt s ⟨(k : Int), 0, 0, 0, 0, .zero⟩ = s ∧ (79 ∈ lt → opE s.o = 0) ∧ spI s) ?_ ?_ ?_ ?_ ?_ ?_ hk1 hk13
  · intro k _ h
    cases ws with
    | nil => simp [sgo] at h
    | cons x t =>
      simp only [sgo] at h
      rw [if_neg (by decide)] at h
      cases hn : numW x with
      | none => rw [hn] at h; simp at h
      | some n =>
        rw [hn] at h
        simp only at h
        split at h
        · have hle := numW_le hn
          simp only [Prod.mk.injEq, and_true] at h
          subst h
          refine ⟨rfl, ?_, rfl, fun hh => absurd hh (by decide), ?_⟩
          · simp [posS, getS, setS]
          · refine ⟨?_, zle, zle, zle⟩
            show (n : Int) ≤ _
            omega
        · simp at h
  · intro h
    cases ws with
    | nil => simp [sgo] at h
    | cons x t =>
      simp only [sgo] at h
      rw [if_neg (by decide)] at h
      cases hn : numW x with
      | none => rw [hn] at h; simp at h
      | some n =>
        rw [hn] at h
        simp only at h
        rw [if_pos trivial] at h
        split at h
        · rename_i hz; simp only [Prod.mk.injEq] at h; exact absurd h.2 hz
        · rename_i hz
          split at h
          · simp at h
          · have hle := numW_le hn
            simp only [Prod.mk.injEq, and_true] at h
            subst h
            refine ⟨rfl, ?_, rfl, fun _ => op_read (Classical.byContradiction hz), ?_⟩
            · simp [posS, getS, setS]
            · refine ⟨?_, zle, zle, zle⟩
              show (n : Int) ≤ _
              omega
  · intro h
    cases ws with
    | nil => simp [sgo] at h
    | cons x t =>
      simp only [sgo] at h
      rw [if_neg (by decide)] at h
      cases hn : numW x with
      | none => rw [hn] at h; simp at h
      | some n =>
        rw [hn] at h
        simp only at h
        cases t with
        | nil => simp at h
        | cons y t =>
          simp only at h
          rw [if_neg (by decide)] at h
          cases hm : numW y with
          | none => rw [hm] at h; simp at h
          | some m =>
            rw [hm] at h
            simp only at h
            rw [if_pos trivial] at h
            split at h
            · rename_i hz; simp only [Prod.mk.injEq] at h; exact absurd h.2 hz
            · rename_i hz
              split at h
              · simp at h
              · have hle := numW_le hn
                have hle2 := numW_le hm
                simp only [Prod.mk.injEq, and_true] at h
                subst h
                refine ⟨rfl, ?_, rfl, fun _ => op_read (Classical.byContradiction hz), ?_⟩
                · simp [posS, getS, setS]
                · refine ⟨?_, ?_, zle, zle⟩
                  · show (n : Int) ≤ _
                    omega
                  · show (m : Int) ≤ _
                    omega
  · intro k _ h
    cases ws with
    | nil => simp [sgo] at h
    | cons x t =>
      simp only [sgo] at h
      rw [if_neg (by decide)] at h
      cases hn : numW x with
      | none => rw [hn] at h; simp at h
      | some n =>
        rw [hn] at h
        simp only at h
        split at h
        · have hle := numW_le hn
          simp only [Prod.mk.injEq, and_true] at h
          subst h
          refine ⟨rfl, ?_, rfl, fun hh => absurd hh (by decide), ?_⟩
          · simp [posS, getS, setS]
          · refine ⟨zle, ?_, zle, zle⟩
            show (n : Int) ≤ _
            omega
        · simp at h
  · intro h
    cases ws with
    | nil => simp [sgo] at h
    | cons x t =>
      simp only [sgo] at h
      rw [if_neg (by decide)] at h
      cases hn : numW x with
      | none => rw [hn] at h; simp at h
      | some n =>
        rw [hn] at h
        simp only at h
        cases t with
        | nil => simp at h
        | cons y t =>
          simp only at h
          rw [if_neg (by decide)] at h
          cases hm : numW y with
          | none => rw [hm] at h; simp at h
          | some m =>
            rw [hm] at h
            simp only at h
            cases t with
            | nil => simp at h
            | cons z t =>
              simp only at h
              rw [if_neg (by decide)] at h
              cases hq : numW z with
              | none => rw [hq] at h; simp at h
              | some q =>
                rw [hq] at h
                simp only at h
                split at h
                · have hle := numW_le hn
                  have hle2 := numW_le hm
                  have hle3 := numW_le hq
                  simp only [Prod.mk.injEq, and_true] at h
                  subst h
                  refine ⟨rfl, ?_, rfl, fun hh => absurd hh (by decide), ?_⟩
                  · simp [posS, getS, setS]
                  · refine ⟨zle, ?_, ?_, ?_⟩
                    · show (n : Int) ≤ _
                      omega
                    · show (m : Int) ≤ _
                      omega
                    · show (q : Int) ≤ _
                      omega
                · simp at h
  · intro h
    simp only [sgo] at h
    split at h
    · simp only [Prod.mk.injEq, and_true] at h
      subst h
      exact ⟨rfl, rfl, rfl, fun hh => absurd hh (by decide), zle, zle, zle, zle⟩
    · simp at h
theorem kindS_lt {x : List UInt8} {k : Nat} (h : kindS x = some k) : 1 ≤ k ∧ k ≤ 13 := by
  have key : ∀ {l : Ws} {a j : Nat}, findW x a l = some j → a ≤ j ∧ j < a + l.length := by
    intro l
    induction l with
    | nil => intro a j h; simp [findW] at h
    | cons y r ih =>
      intro a j h
      rw [findW] at h
      split at h
      · simp only [Option.some.injEq] at h
        subst h
        simp
      · have := ih h
        simp only [List.length_cons]
        omega
  have := key h
  have e : (sN.drop 1).length = 13 := rfl
  omega
theorem step_good {ws : Ws} (h : (stepR ws).2 = 0) : stepE (stepR ws).1 = 0 ∧ spI (stepR ws).1 := by
  unfold stepR at h ⊢
  cases hk : kindS (ws.getD 0 []) with
  | none => rw [hk] at h; simp at h
  | some k =>
    rw [hk] at h
    simp only at h ⊢
    obtain ⟨h1, h13⟩ := kindS_lt hk
    obtain ⟨a1, a2, a3, a4, a5⟩ := sgo_good h1 h13 (show sgo (slN k) (ws.drop 1) ⟨(k : Int), 0, 0, 0, 0, .zero⟩ = (_, 0) from Prod.ext rfl h)
    refine ⟨?_, a5⟩
    have hm : mayS (sgo (slN k) (ws.drop 1) ⟨(k : Int), 0, 0, 0, 0, .zero⟩).1 = true := by
      unfold mayS
      rw [a1, Int.toNat_natCast, a2, a3]
      simp
      omega
    unfold stepE
    rw [if_neg (by rw [hm]; decide), a1, Int.toNat_natCast]
    split
    · rename_i hin; exact a4 hin
    · rfl
def PsG (s : Ps) : Prop := (∀ c, s.c = some c → cfgL c = 0) ∧ (∀ x ∈ s.ss, stepE x = 0 ∧ spI x)
theorem PsG.line {s s' : Ps} {l : List UInt8} (h : PsG s) (hl : lineL s l = .go s') : PsG s' := by
  unfold lineL wordsL at hl
  split at hl
  · simp at hl
  · split at hl
    · unfold headL at hl
      split at hl
      · simp at hl
      · rename_i cc hcc
        split at hl
        · simp at hl
        · rename_i hz
          simp only [Pl.go.injEq] at hl
          subst hl
          refine ⟨fun c hc => ?_, h.2⟩
          simp only [Option.some.injEq] at hc
          subst hc
          exact Classical.byContradiction hz
    · unfold stepL at hl
      split at hl
      · simp at hl
      · split at hl
        · simp at hl
        · rename_i hz
          simp only [Pl.go.injEq] at hl
          subst hl
          refine ⟨h.1, fun x hx => ?_⟩
          rcases List.mem_append.1 hx with hx | hx
          · exact h.2 x hx
          · simp only [List.mem_cons, List.not_mem_nil, or_false] at hx
            subst hx
            exact step_good (Classical.byContradiction hz)
theorem go_good : ∀ (ls : Ws) (i : Nat) (s : Ps) (c : List Int) (ss : List Sp), PsG s → PsOk s → goL i s ls = .ok c ss → cfgL c = 0 ∧ c.length = 10 ∧ ss.length ≤ 4000 ∧ ∀ x ∈ ss, stepE x = 0 ∧ spI x
  | [], i, s, c, ss, hg, ho, h => by
    rw [goL] at h
    split at h
    · simp at h
    · rename_i cc hcc
      simp only [PA.ok.injEq] at h
      obtain ⟨rfl, rfl⟩ := h
      have := ho.1
      rw [hcc] at this
      exact ⟨hg.1 _ hcc, this, ho.2, hg.2⟩
  | l :: r, i, s, c, ss, hg, ho, h => by
    rw [goL] at h
    split at h
    · exact go_good r (i + 1) s c ss hg ho h
    · cases hL : lineL s l with
      | bad e => rw [hL] at h; simp at h
      | go s' => rw [hL] at h; exact go_good r (i + 1) s' c ss (hg.line hL) (ho.line hL) h
theorem parse_good {t : List UInt8} {c : List Int} {ss : List Sp} (h : parseW t = .ok c ss) : cfgL c = 0 ∧ c.length = 10 ∧ ss.length ≤ 4000 ∧ ∀ x ∈ ss, stepE x = 0 ∧ spI x := by
  unfold parseW at h
  split at h
  · simp at h
  · exact go_good _ _ _ _ _ ⟨fun c hc => by simp at hc, fun x hx => by cases hx⟩ ⟨rfl, by simp⟩ h
theorem badS_good : ∀ {ss : List Sp}, (∀ x ∈ ss, stepE x = 0) → badS ss = 0
  | [], _ => rfl
  | x :: r, h => by
    rw [badS, if_neg (by rw [h x (by simp)]; simp)]
    exact badS_good (fun y hy => h y (by simp [hy]))
theorem print_good {t : List UInt8} {c : List Int} {ss : List Sp} (h : parseW t = .ok c ss) : printE c ss = 0 ∨ printE c ss = 172 := by
  obtain ⟨h1, h2, h3, h4⟩ := parse_good h
  unfold printE
  rw [if_neg (by rw [h1]; simp), if_neg (by omega), badS_good (fun x hx => (h4 x hx).1), if_neg (by simp)]
  split
  · exact Or.inr rfl
  · exact Or.inl rfl
end Go.Proofs.YtblojlaifnmimaaGreatDoor
