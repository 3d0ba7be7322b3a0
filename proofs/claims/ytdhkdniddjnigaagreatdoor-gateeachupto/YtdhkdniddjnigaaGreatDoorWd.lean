namespace Go.Proofs.YtdhkdniddjnigaaGreatDoor
set_option linter.unusedVariables false

/-- A bare byte, by its number. -/
def bareN (n : Nat) : Bool := decide ((97 ≤ n ∧ n ≤ 122) ∨ (65 ≤ n ∧ n ≤ 90) ∨ (48 ≤ n ∧ n ≤ 57) ∨ n = 45 ∨ n = 95 ∨ n = 46 ∨ n = 47)
/-- A byte that may stand for itself within quotes. -/
def prnN (n : Nat) : Bool := decide (32 ≤ n ∧ n ≤ 126)
/-- What a digit counts. -/
def hexN (n : Nat) : Option Nat := if 48 ≤ n ∧ n ≤ 57 then some (n - 48) else if 97 ≤ n ∧ n ≤ 102 then some (n - 87) else none

theorem hexN_lt {n d : Nat} (h : hexN n = some d) : d < 16 := by
  unfold hexN at h
  split at h
  · simp only [Option.some.injEq] at h; omega
  · split at h
    · simp only [Option.some.injEq] at h; omega
    · simp at h

/-- A word that is written bare. -/
def isBareW (l : List UInt8) : Bool := decide (l ≠ [] ∧ ∀ b ∈ l, bareN b.toNat = true)

inductive St where
  | ahead
  | bare (w : List UInt8)
  | closed
  | quote (o : Nat) (w : List UInt8)
  | esc (o : Nat) (w : List UInt8) (e : Nat)
  | high (o : Nat) (w : List UInt8) (e : Nat)
  | low (o : Nat) (w : List UInt8) (e d : Nat)

abbrev Ws := List (List UInt8)

inductive Out where
  | go (s : St) (ws : Ws)
  | bad (k : Nat)

/-- One byte of a line. -/
def stepW (s : St) (ws : Ws) (k : Nat) (b : UInt8) : Out :=
  match s with
  | .ahead => if b.toNat = 32 then .go .ahead ws else if b.toNat = 34 then .go (.quote k []) ws else if bareN b.toNat = true then .go (.bare [b]) ws else .bad k
  | .bare w => if bareN b.toNat = true then .go (.bare (w ++ [b])) ws else if b.toNat = 32 then .go .ahead (ws ++ [w]) else .bad k
  | .closed => if b.toNat = 32 then .go .ahead ws else .bad k
  | .quote o w => if b.toNat = 34 then (if isBareW w = true then .bad o else .go .closed (ws ++ [w])) else if b.toNat = 92 then .go (.esc o w k) ws else if prnN b.toNat = true then .go (.quote o (w ++ [b])) ws else .bad k
  | .esc o w e => if b.toNat = 120 then .go (.high o w e) ws else if b.toNat = 34 ∨ b.toNat = 92 then .go (.quote o (w ++ [b])) ws else .bad k
  | .high o w e => match hexN b.toNat with
    | none => .bad k
    | some d => .go (.low o w e d) ws
  | .low o w e h => match hexN b.toNat with
    | none => .bad k
    | some d => if prnN (16 * h + d) = true then .bad e else .go (.quote o (w ++ [UInt8.ofNat (16 * h + d)])) ws

inductive Ans where
  | ok (ws : Ws)
  | byte (k : Nat)
  | stop (n : Nat)
  | long

/-- A line's end. -/
def finW (s : St) (ws : Ws) (n : Nat) : Ans :=
  match s with
  | .ahead => .ok ws
  | .bare w => .ok (ws ++ [w])
  | .closed => .ok ws
  | _ => .stop n

def runW : St → Ws → Nat → List UInt8 → Ans
  | s, ws, k, [] => finW s ws k
  | s, ws, k, b :: t => match stepW s ws k b with
    | .go s' ws' => runW s' ws' (k + 1) t
    | .bad j => .byte j

/-- What Split answers. -/
def splitW (l : List UInt8) : Ans := if 8192 < l.length then .long else runW .ahead [] 0 l

def Ans.ws : Ans → Ws
  | .ok ws => ws
  | _ => []
def Ans.at : Ans → Nat
  | .byte k => k
  | .stop n => n
  | _ => 0
def Ans.err : Ans → Nat
  | .ok _ => 0
  | .byte _ => 161
  | .stop _ => 162
  | .long => 160

theorem runW_go {s s' : St} {ws ws' : Ws} {k : Nat} {l : List UInt8} (hk : k < l.length) (h : stepW s ws k (l.getD k 0) = .go s' ws') : runW s ws k (l.drop k) = runW s' ws' (k + 1) (l.drop (k + 1)) := by
  have e : l.drop k = l.getD k 0 :: l.drop (k + 1) := by
    rw [List.drop_eq_getElem_cons hk]
    simp [List.getD, hk]
  rw [e, runW, h]
theorem runW_bad {s : St} {ws : Ws} {k j : Nat} {l : List UInt8} (hk : k < l.length) (h : stepW s ws k (l.getD k 0) = .bad j) : runW s ws k (l.drop k) = .byte j := by
  have e : l.drop k = l.getD k 0 :: l.drop (k + 1) := by
    rw [List.drop_eq_getElem_cons hk]
    simp [List.getD, hk]
  rw [e, runW, h]
theorem runW_end {s : St} {ws : Ws} {k : Nat} {l : List UInt8} (hk : l.length ≤ k) : runW s ws k (l.drop k) = finW s ws k := by
  rw [List.drop_eq_nil_of_le hk, runW]

/-- The words are fewer than the bytes, and so are their letters. -/
def St.held : St → Nat
  | .ahead => 0
  | .bare w => w.length + 1
  | .closed => 0
  | .quote _ w => w.length + 1
  | .esc _ w _ => w.length + 1
  | .high _ w _ => w.length + 1
  | .low _ w _ _ => w.length + 1
def wsz (ws : Ws) : Nat := ws.length + (ws.map List.length).sum
theorem wsz_snoc (ws : Ws) (w : List UInt8) : wsz (ws ++ [w]) = wsz ws + w.length + 1 := by simp [wsz]; omega
theorem stepW_held {s s' : St} {ws ws' : Ws} {k : Nat} {b : UInt8} (h : stepW s ws k b = .go s' ws') : s'.held + wsz ws' ≤ s.held + wsz ws + 2 := by
  cases s <;> simp only [stepW] at h <;> (repeat' split at h) <;> simp only [Out.go.injEq, reduceCtorEq] at h <;> obtain ⟨rfl, rfl⟩ := h <;> simp only [St.held, wsz_snoc, List.length_append, List.length_cons, List.length_nil] <;> omega

end Go.Proofs.YtdhkdniddjnigaaGreatDoor
