import Derived.Test.YthnccpbgccmapabDoorTold1
namespace Go.Proofs.YthnccpbgccmapabDoor
set_option linter.unusedVariables false

/-- What the bytes that were taken have told so far. -/
structure Lk where
  taken : Nat
  size : Nat
  reg : Nat

def Lk.init : Lk := ⟨0, 0, 4294967295⟩

/-- One byte more: whether they are still the beginning of a datagram. -/
def takeP (s : Lk) (c : UInt8) : Lk × Bool :=
  if s.taken < 2 then (⟨s.taken + 1, s.size, mixN s.reg c.toNat⟩, c == ([70, 76] : List UInt8).getD s.taken 0)
  else if s.taken < 5 then (⟨s.taken + 1, s.size + c.toNat * 256 ^ (s.taken - 2), mixN s.reg c.toNat⟩, decide (s.size + c.toNat * 256 ^ (s.taken - 2) ≤ 65536))
  else if s.taken < 9 then (⟨s.taken + 1, s.size, if s.taken + 1 = 9 then 4294967295 else s.reg⟩, c == byteN (s.reg ^^^ 4294967295) (s.taken - 5))
  else if s.taken < 9 + s.size then (⟨s.taken + 1, s.size, mixN s.reg c.toNat⟩, true)
  else (⟨s.taken + 1, s.size, s.reg⟩, c == byteN (s.reg ^^^ 4294967295) (s.taken - (9 + s.size)))

def wholeP (s : Lk) : Prop := s.taken = 13 + s.size
instance (s : Lk) : Decidable (wholeP s) := by unfold wholeP; infer_instance

/-- What holds of a look that goes on. -/
structure Lk.Ok (s : Lk) : Prop where
  reg : s.reg < 4294967296
  low : s.taken ≤ 5 → s.size < 256 ^ (s.taken - 2)  ∨ s.taken = 5
  size : s.size ≤ 65536
  more : s.taken < 13 + s.size

theorem Lk.init_ok : Lk.init.Ok := ⟨by decide, fun _ => Or.inl (by decide), by decide, by decide⟩

theorem takeP_taken (s : Lk) (c : UInt8) : (takeP s c).1.taken = s.taken + 1 := by
  unfold takeP
  split
  · rfl
  · split
    · rfl
    · split
      · rfl
      · split <;> rfl

theorem takeP_ok {s : Lk} {c : UInt8} (h : s.Ok) (ht : (takeP s c).2 = true) (hw : ¬ wholeP (takeP s c).1) : (takeP s c).1.Ok := by
  have hc := c.toNat_lt
  have hm := h.more
  have hz := h.size
  have hr := h.reg
  have hmx : mixN s.reg c.toNat < 4294967296 := mixN_lt hr hc
  unfold takeP at ht hw ⊢
  unfold wholeP at hw
  split at ht
  · rename_i h2
    simp only [h2, if_true] at hw ⊢
    have hs0 : s.size = 0 := by
      rcases h.low (by omega) with hl | hl
      · have : 256 ^ (s.taken - 2) = 1 := by rw [show s.taken - 2 = 0 by omega]
        omega
      · omega
    refine ⟨hmx, fun _ => Or.inl ?_, hz, by show s.taken + 1 < 13 + s.size; omega⟩
    show s.size < 256 ^ (s.taken + 1 - 2)
    have := Nat.pow_pos (n := s.taken + 1 - 2) (show 0 < 256 by decide)
    omega
  · rename_i h2
    rw [if_neg h2] at hw ⊢
    split at ht
    · rename_i h5
      rw [if_pos h5] at hw ⊢
      have hle : s.size + c.toNat * 256 ^ (s.taken - 2) ≤ 65536 := by simpa using ht
      refine ⟨hmx, fun _ => ?_, hle, by show s.taken + 1 < 13 + _; omega⟩
      show _ < 256 ^ (s.taken + 1 - 2) ∨ _
      have hl : s.size < 256 ^ (s.taken - 2) := by
        rcases h.low (by omega) with hl | hl
        · exact hl
        · omega
      have : s.taken = 2 ∨ s.taken = 3 ∨ s.taken = 4 := by omega
      rcases this with e | e | e
      · left; rw [e] at hl ⊢; simp at hl ⊢; omega
      · left; rw [e] at hl ⊢; simp at hl ⊢; omega
      · right; show s.taken + 1 = 5; omega
    · rename_i h5
      rw [if_neg h5] at hw ⊢
      split at ht
      · rename_i h9
        rw [if_pos h9] at hw ⊢
        refine ⟨?_, fun hx => ?_, hz, by show s.taken + 1 < 13 + s.size; omega⟩
        · show (if s.taken + 1 = 9 then 4294967295 else s.reg) < _
          split <;> omega
        · have : s.taken + 1 ≤ 5 := hx
          omega
      · rename_i h9
        rw [if_neg h9] at hw ⊢
        split at ht
        · rename_i he
          rw [if_pos he] at hw ⊢
          exact ⟨hmx, fun hx => by have : s.taken + 1 ≤ 5 := hx; omega, hz, by show s.taken + 1 < 13 + s.size; omega⟩
        · rename_i he
          rw [if_neg he] at hw ⊢
          have hw' : ¬ s.taken + 1 = 13 + s.size := hw
          exact ⟨hr, fun hx => by have : s.taken + 1 ≤ 5 := hx; omega, hz, by show s.taken + 1 < 13 + s.size; omega⟩

/-- What comes of bytes, looked at one by one. -/
inductive Res where
  | more (s : Lk)
  | bad
  | whole (n : Nat)

def scan (s : Lk) : List UInt8 → Res
  | [] => .more s
  | c :: r => if (takeP s c).2 then (if wholeP (takeP s c).1 then .whole (takeP s c).1.size else scan (takeP s c).1 r) else .bad

theorem scan_append (s : Lk) (a b : List UInt8) : scan s (a ++ b) = match scan s a with | .more s' => scan s' b | r => r := by
  induction a generalizing s with
  | nil => rfl
  | cons c a ih =>
    simp only [List.cons_append, scan]
    split
    · split
      · rfl
      · exact ih _
    · rfl

theorem scan_more {s s' : Lk} {b : List UInt8} (h : scan s b = .more s') : s'.taken = s.taken + b.length := by
  induction b generalizing s with
  | nil => simp [scan] at h; subst h; simp
  | cons c b ih =>
    simp only [scan] at h
    split at h
    · split at h
      · simp at h
      · have := ih h
        rw [takeP_taken] at this
        simp; omega
    · simp at h

theorem scan_ok {s s' : Lk} {b : List UInt8} (hs : s.Ok) (h : scan s b = .more s') : s'.Ok := by
  induction b generalizing s with
  | nil => simp [scan] at h; subst h; exact hs
  | cons c b ih =>
    simp only [scan] at h
    split at h
    · split at h
      · simp at h
      · rename_i h1 h2
        exact ih (takeP_ok hs h1 h2) h
    · simp at h

theorem scan_whole {s : Lk} {b : List UInt8} {n : Nat} (h : scan s b = .whole n) : 13 + n ≤ s.taken + b.length := by
  induction b generalizing s with
  | nil => simp [scan] at h
  | cons c b ih =>
    simp only [scan] at h
    split at h
    · split at h
      · rename_i h1 h2
        have ht := takeP_taken s c
        unfold wholeP at h2
        simp at h
        simp; omega
      · have := ih h
        rw [takeP_taken] at this
        simp; omega
    · simp at h

theorem scan_bad_ne {s : Lk} {b : List UInt8} (h : scan s b = .bad) : b ≠ [] := by
  intro e
  subst e
  simp [scan] at h

/-- What is found in bytes: the payloads, how many are let by, those that are held. -/
def fnd : Nat → List UInt8 → List (List UInt8) × Nat × List UInt8
  | 0, b => ([], 0, b)
  | f + 1, b => match scan .init b with
    | .more _ => ([], 0, b)
    | .bad => ((fnd f b.tail).1, (fnd f b.tail).2.1 + 1, (fnd f b.tail).2.2)
    | .whole n => ((b.drop 9).take n :: (fnd f (b.drop (n + 13))).1, (fnd f (b.drop (n + 13))).2.1, (fnd f (b.drop (n + 13))).2.2)

theorem fnd_fuel : ∀ (f g : Nat) (b : List UInt8), b.length ≤ f → b.length ≤ g → fnd f b = fnd g b
  | 0, g, b, hf, hg => by
    have : b = [] := List.eq_nil_of_length_eq_zero (by omega)
    subst this
    cases g <;> simp [fnd, scan]
  | f + 1, 0, b, hf, hg => by
    have : b = [] := List.eq_nil_of_length_eq_zero (by omega)
    subst this
    simp [fnd, scan]
  | f + 1, g + 1, b, hf, hg => by
    unfold fnd
    split
    · rfl
    · rename_i h
      have hb := scan_bad_ne h
      have hl : b.tail.length + 1 = b.length := by
        cases b with
        | nil => exact absurd rfl hb
        | cons c r => simp
      rw [fnd_fuel f g b.tail (by omega) (by omega)]
    · rename_i n h
      have hl : (b.drop (n + 13)).length + (n + 13) = b.length := by
        have := scan_whole h
        simp [Lk.init] at this ⊢
        omega
      rw [fnd_fuel f g _ (by omega) (by omega)]

/-- All that is found. -/
def fin (b : List UInt8) : List (List UInt8) × Nat × List UInt8 := fnd b.length b

theorem fin_more {b : List UInt8} {s : Lk} (h : scan .init b = .more s) : fin b = ([], 0, b) := by
  unfold fin
  cases hb : b.length with
  | zero => rfl
  | succ n => unfold fnd; rw [h]

theorem fin_bad {c : UInt8} {r : List UInt8} (h : scan .init (c :: r) = .bad) : fin (c :: r) = ((fin r).1, (fin r).2.1 + 1, (fin r).2.2) := by
  unfold fin
  rw [List.length_cons]
  conv => lhs; unfold fnd
  rw [h]
  rfl

theorem fin_whole {b : List UInt8} {n : Nat} (h : scan .init b = .whole n) : fin b = ((b.drop 9).take n :: (fin (b.drop (n + 13))).1, (fin (b.drop (n + 13))).2.1, (fin (b.drop (n + 13))).2.2) := by
  have hw := scan_whole h
  simp [Lk.init] at hw
  unfold fin
  obtain ⟨m, hm⟩ : ∃ m, b.length = m + 1 := ⟨b.length - 1, by omega⟩
  rw [hm]
  conv => lhs; unfold fnd
  rw [h]
  simp only []
  rw [fnd_fuel m (b.drop (n + 13)).length _ (by simp; omega) (Nat.le_refl _)]

/-- What is held goes on. -/
theorem fin_held (b : List UInt8) : ∃ s, scan .init (fin b).2.2 = .more s := by
  suffices H : ∀ (n : Nat) (b : List UInt8), b.length ≤ n → ∃ s, scan .init (fin b).2.2 = .more s from H _ b (Nat.le_refl _)
  intro n
  induction n with
  | zero =>
    intro b hb
    have : b = [] := List.eq_nil_of_length_eq_zero (by omega)
    subst this
    exact ⟨.init, rfl⟩
  | succ n ih =>
    intro b hb
    cases h : scan .init b with
    | more s => rw [fin_more h]; exact ⟨s, h⟩
    | bad =>
      cases b with
      | nil => simp [scan] at h
      | cons c r => rw [fin_bad h]; exact ih r (by simp at hb; omega)
    | whole m =>
      rw [fin_whole h]
      exact ih _ (by simp; omega)

/-- More bytes: what was held is looked at with them. -/
theorem fin_append (b x : List UInt8) : fin (b ++ x) = ((fin b).1 ++ (fin ((fin b).2.2 ++ x)).1, (fin b).2.1 + (fin ((fin b).2.2 ++ x)).2.1, (fin ((fin b).2.2 ++ x)).2.2) := by
  suffices H : ∀ (n : Nat) (b : List UInt8), b.length ≤ n → fin (b ++ x) = ((fin b).1 ++ (fin ((fin b).2.2 ++ x)).1, (fin b).2.1 + (fin ((fin b).2.2 ++ x)).2.1, (fin ((fin b).2.2 ++ x)).2.2) from H _ b (Nat.le_refl _)
  intro n
  induction n with
  | zero =>
    intro b hb
    have : b = [] := List.eq_nil_of_length_eq_zero (by omega)
    subst this
    have e : fin [] = ([], 0, []) := rfl
    rw [e]
    simp
  | succ n ih =>
    intro b hb
    cases h : scan .init b with
    | more s => rw [fin_more h]; simp
    | bad =>
      cases b with
      | nil => simp [scan] at h
      | cons c r =>
        have h2 : scan .init (c :: (r ++ x)) = .bad := by
          have := scan_append .init (c :: r) x
          rw [h] at this
          exact this
        rw [List.cons_append, fin_bad h2, fin_bad h, ih r (by simp at hb; omega)]
        simp only [Prod.mk.injEq, true_and, and_true]
        omega
    | whole m =>
      have hw := scan_whole h
      simp [Lk.init] at hw
      have h2 : scan .init (b ++ x) = .whole m := by
        rw [scan_append, h]
      have e1 : ((b ++ x).drop 9).take m = (b.drop 9).take m := by
        rw [List.drop_append_of_le_length (by omega), List.take_append_of_le_length (by simp; omega)]
      have e2 : (b ++ x).drop (m + 13) = b.drop (m + 13) ++ x := List.drop_append_of_le_length (by omega)
      rw [fin_whole h2, fin_whole h, e1, e2, ih _ (by simp; omega)]
      simp

/-- How many bytes payloads take. -/
def madeP (ps : List (List UInt8)) : Nat := (ps.map fun p => p.length + 13).sum

theorem fin_length (b : List UInt8) : (fin b).2.1 + (fin b).2.2.length + madeP (fin b).1 = b.length := by
  suffices H : ∀ (n : Nat) (b : List UInt8), b.length ≤ n → (fin b).2.1 + (fin b).2.2.length + madeP (fin b).1 = b.length from H _ b (Nat.le_refl _)
  intro n
  induction n with
  | zero =>
    intro b hb
    have : b = [] := List.eq_nil_of_length_eq_zero (by omega)
    subst this
    rfl
  | succ n ih =>
    intro b hb
    cases h : scan .init b with
    | more s => rw [fin_more h]; simp [madeP]
    | bad =>
      cases b with
      | nil => simp [scan] at h
      | cons c r =>
        have := ih r (by simp at hb; omega)
        rw [fin_bad h]
        simp only [List.length_cons]
        omega
    | whole m =>
      have hw := scan_whole h
      simp [Lk.init] at hw
      have := ih (b.drop (m + 13)) (by simp; omega)
      rw [fin_whole h]
      simp only [madeP, List.map_cons, List.sum_cons, List.length_take, List.length_drop] at this ⊢
      omega
end Go.Proofs.YthnccpbgccmapabDoor
