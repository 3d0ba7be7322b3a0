import Derived.Test.YtblojlaifnmimaaGreatDoorJ16
import Derived.Test.YtblojlaifnmimaaGreatDoorJ12
import Derived.Lib.SplitLaws
import Derived.Lib.SlTrimSet
import Derived.Lib.Replace
namespace Go.Proofs.YtblojlaifnmimaaGreatDoor
set_option linter.unusedVariables false

/-- A text's lines. -/
def linesW : List UInt8 → List UInt8 → Ws
  | acc, [] => [acc]
  | acc, b :: r => if b = 10 then acc :: linesW [] r else linesW (acc ++ [b]) r
/-- A line that is passed over. -/
def passW : List UInt8 → Bool
  | [] => true
  | b :: r => if b = 32 ∨ b = 9 then passW r else decide (b = 35)

/-- The steps' words and letters. -/
def sfN : List (List UInt8 × List UInt8) := [([], []), ([116, 105, 99, 107], [65]), ([99, 108, 111, 99, 107], [65]), ([115, 117, 98, 109, 105, 116], [65, 79]), ([97, 115, 107], [65, 75, 79]), ([100, 101, 108, 105, 118, 101, 114], [75]), ([100, 114, 111, 112], [75]), ([100, 117, 112], [75]), ([102, 108, 105, 112], [75, 88, 89]), ([99, 114, 97, 115, 104], [65]), ([115, 116, 97, 114, 116], [65]), ([108, 111, 111, 107], [65]), ([114, 111, 117, 110, 100], []), ([115, 101, 116, 116, 108, 101], [75])]
def snN (k : Nat) : List UInt8 := (sfN.getD k ([], [])).1
def slN (k : Nat) : List UInt8 := (sfN.getD k ([], [])).2
def sN : Ws := sfN.map (·.1)

/-- An op. -/
structure OpI where
  k : Int
  nm : List UInt8
  tx : List UInt8
  n : Int
  m : Int
deriving DecidableEq
def OpI.zero : OpI := ⟨0, [], [], 0, 0⟩
def OpR.toI (o : OpR) : OpI := ⟨o.k, o.nm, o.tx, (o.n : Int), (o.m : Int)⟩
def OpI.vals (o : OpI) : List Value := [.int .i64 o.k, .string ⟨o.nm.toArray⟩, .string ⟨o.tx.toArray⟩, .int .i64 o.n, .int .i64 o.m]
/-- A step. -/
structure Sp where
  k : Int
  a : Int
  b : Int
  x : Int
  y : Int
  o : OpI
deriving DecidableEq
def Sp.zero : Sp := ⟨0, 0, 0, 0, 0, .zero⟩
def Sp.vals (s : Sp) : List Value := [.int .i64 s.k, .int .i64 s.a, .int .i64 s.b, .int .i64 s.x, .int .i64 s.y, .int .i64 s.o.k, .string ⟨s.o.nm.toArray⟩, .string ⟨s.o.tx.toArray⟩, .int .i64 s.o.n, .int .i64 s.o.m]
theorem Sp.len (s : Sp) : s.vals.length = 10 := rfl
theorem Sp.one (s : Sp) : ∀ u ∈ s.vals, u.oneCell' = true := by
  intro u hu
  simp only [Sp.vals, List.mem_cons, List.not_mem_nil, or_false] at hu
  rcases hu with rfl | rfl | rfl | rfl | rfl | rfl | rfl | rfl | rfl | rfl <;> rfl
def setS (c : Nat) (n : Int) (s : Sp) : Sp :=
  if c = 65 then { s with a := n } else if c = 75 then { s with b := n } else if c = 88 then { s with x := n } else { s with y := n }
def getS (c : Nat) (s : Sp) : Int := if c = 65 then s.a else if c = 75 then s.b else if c = 88 then s.x else s.y

/-- The kind of a step's word. -/
def kindS (x : List UInt8) : Option Nat := findW x 1 (sN.drop 1)
/-- A step's fields, letter by letter. -/
def sgo : List UInt8 → Ws → Sp → Sp × Int
  | [], ws, s => if ws = [] then (s, 0) else (.zero, 171)
  | c :: r, ws, s =>
    if c = 79 then (if (readO ws).e ≠ 0 then (.zero, (readO ws).e) else if (readO ws).k < ws.length then (.zero, 171) else ({ s with o := (readO ws).o.toI }, 0))
    else match ws with
      | [] => (.zero, 171)
      | x :: t => match numW x with
        | none => (.zero, 171)
        | some n => sgo r t (setS c.toNat (n : Int) s)
def stepR (ws : Ws) : Sp × Int := match kindS (ws.getD 0 []) with
  | none => (.zero, 171)
  | some k => sgo (slN k) (ws.drop 1) ⟨(k : Int), 0, 0, 0, 0, .zero⟩

/-- Numbers, all of them. -/
def numsW : Ws → Option (List Int)
  | [] => some []
  | x :: r => match numW x with
    | none => none
    | some n => match numsW r with
      | none => none
      | some l => some ((n : Int) :: l)
def fleetW : List UInt8 := [102, 108, 101, 101, 116]
def headR (ws : Ws) : Option (List Int) := if ws.length = 11 ∧ ws.getD 0 [] = fleetW then numsW (ws.drop 1) else none
/-- What the check of a config tells. -/
def cfgL (l : List Int) : Int := cfgE (cfgOK (l.getD 0 0) (l.getD 1 0) (l.getD 2 0) (l.getD 3 0) (l.getD 4 0) (l.getD 5 0) (l.getD 6 0) (l.getD 7 0) (l.getD 8 0) (l.getD 9 0))

/-- A reader on its way. -/
structure Ps where
  c : Option (List Int)
  ss : List Sp
inductive Pl where
  | go (s : Ps)
  | bad (e : Int)
def headL (s : Ps) (ws : Ws) : Pl := match headR ws with
  | none => .bad 170
  | some c => if cfgL c ≠ 0 then .bad (cfgL c) else .go ⟨some c, s.ss⟩
def stepL (s : Ps) (ws : Ws) : Pl := if s.ss.length = 4000 then .bad 172 else if (stepR ws).2 ≠ 0 then .bad (stepR ws).2 else .go ⟨s.c, s.ss ++ [(stepR ws).1]⟩
def wordsL (s : Ps) (ws : Ws) : Pl := if s.c.isNone then headL s ws else stepL s ws
/-- A line that is not passed over. -/
def lineL (s : Ps) (l : List UInt8) : Pl := if (splitW l).err ≠ 0 then .bad ((splitW l).err : Int) else wordsL s (splitW l).ws
inductive PA where
  | ok (c : List Int) (ss : List Sp)
  | bad (at_ : Nat) (e : Int)
def goL : Nat → Ps → Ws → PA
  | i, s, [] => match s.c with
    | none => .bad i 170
    | some c => .ok c s.ss
  | i, s, l :: r => if passW l = true then goL (i + 1) s r else match lineL s l with
    | .bad e => .bad (i + 1) e
    | .go s' => goL (i + 1) s' r
def parseW (t : List UInt8) : PA := if 65536 < t.length then .bad 0 172 else goL 0 ⟨none, []⟩ (linesW [] t)
def PA.c : PA → List Int
  | .ok c _ => c
  | .bad _ _ => [0, 0, 0, 0, 0, 0, 0, 0, 0, 0]
def PA.ss : PA → List Sp
  | .ok _ ss => ss
  | .bad _ _ => []
def PA.at' : PA → Nat
  | .ok _ _ => 0
  | .bad n _ => n
def PA.e : PA → Int
  | .ok _ _ => 0
  | .bad _ e => e

/-- A step that may be, its op aside. -/
def posS (lt : List UInt8) (s : Sp) : Bool := lt.all fun c => decide (c = 79) || decide (0 ≤ getS c.toNat s)
def onlyS (lt : List UInt8) (s t : Sp) : Sp := lt.foldl (fun t c => if c = 79 then { t with o := s.o } else setS c.toNat (getS c.toNat s) t) t
def mayS (s : Sp) : Bool := decide (1 ≤ s.k ∧ s.k ≤ 13) && posS (slN s.k.toNat) s && decide (onlyS (slN s.k.toNat) s ⟨s.k, 0, 0, 0, 0, .zero⟩ = s)
def opE (o : OpI) : Int := chkO o.k o.nm o.tx o.n o.m
def opWs (o : OpI) : Ws := opA o.k o.nm o.tx o.n o.m
def fieldS (s : Sp) (c : UInt8) : Ws := if c = 79 then opWs s.o else [Lib.decDigits (getS c.toNat s).toNat]
def stepE (s : Sp) : Int := if mayS s = false then 171 else if 79 ∈ slN s.k.toNat then opE s.o else 0
def stepWs (s : Sp) : Ws := if stepE s ≠ 0 then [] else snN s.k.toNat :: (slN s.k.toNat).flatMap (fieldS s)
def headWs (c : List Int) : Ws := fleetW :: c.map fun n => Lib.decDigits n.toNat
def lineP (ws : Ws) : List UInt8 := joinW ws ++ [10]
/-- The first step that is amiss. -/
def badS : List Sp → Int
  | [] => 0
  | s :: r => if stepE s ≠ 0 then stepE s else badS r
def textP (c : List Int) (ss : List Sp) : List UInt8 := lineP (headWs c) ++ ss.flatMap fun s => lineP (stepWs s)
def printE (c : List Int) (ss : List Sp) : Int := if cfgL c ≠ 0 then cfgL c else if 4000 < ss.length then 172 else if badS ss ≠ 0 then badS ss else if 65536 < (textP c ss).length then 172 else 0
def printT (c : List Int) (ss : List Sp) : List UInt8 := if printE c ss ≠ 0 then [] else textP c ss

/-- The library's lines. -/
theorem split_ne (k : Nat) (s : List UInt8) : Lib.splitK [10] 0 k s ≠ [] := by
  cases k with
  | zero => simp [Lib.splitK]
  | succ k => unfold Lib.splitK; split <;> simp
theorem split_lines : ∀ (s acc : List UInt8), linesW acc s = (acc ++ (Lib.splitK [10] 0 (Lib.count s [10]) s).headD []) :: (Lib.splitK [10] 0 (Lib.count s [10]) s).tail
  | [], acc => by
    rw [Lib.count_one]
    simp [linesW, Lib.splitK]
  | b :: l, acc => by
    by_cases h : b = 10
    · subst h
      have hix : Lib.index ((10 : UInt8) :: l) [10] = ((0 : Nat) : Int) := by rw [Lib.index]; simp [List.isPrefixOf]
      have hm : ¬ (Lib.index ((10 : UInt8) :: l) [10] == -1) = true := by rw [hix]; decide
      rw [linesW, if_pos rfl, split_lines l [], Lib.count_cons_eq, Nat.add_comm, Lib.splitK, if_neg hm, hix]
      simp only [List.nil_append, Int.toNat_natCast, Nat.add_zero, List.take_zero, List.length_cons, List.length_nil, Nat.zero_add, List.drop_one, List.tail_cons, List.headD_cons, List.append_nil]
      congr 1
      have := split_ne (Lib.count l [10]) l
      cases hs : Lib.splitK [10] 0 (Lib.count l [10]) l with
      | nil => exact absurd hs this
      | cons x y => rfl
    · rw [linesW, if_neg h, split_lines l (acc ++ [b]), Lib.count_cons_ne b 10 l h]
      have hp : ([10] : List UInt8).isPrefixOf (b :: l) = false := by simp [List.isPrefixOf, Ne.symm h]
      have hix : Lib.index (b :: l) [10] = if Lib.index l [10] == -1 then -1 else Lib.index l [10] + 1 := by rw [Lib.index, hp]; simp
      cases hc : Lib.count l [10] with
      | zero => simp [Lib.splitK]
      | succ k =>
        obtain ⟨i, hi⟩ := Lib.index_of_count (s := l) (old := [10]) (by omega)
        have h1 : ¬ (Lib.index l [10] == -1) = true := by rw [hi]; simp
        have hb : Lib.index (b :: l) [10] = ((i + 1 : Nat) : Int) := by rw [hix, if_neg h1, hi]; omega
        have h2 : ¬ (Lib.index (b :: l) [10] == -1) = true := by rw [hb]; simp; omega
        rw [Lib.splitK, if_neg h1, Lib.splitK, if_neg h2, hi, hb]
        simp
theorem lines_split (s : List UInt8) : Lib.splitK [10] 0 (Lib.count s [10]) s = linesW [] s := by
  rw [split_lines s []]
  have := split_ne (Lib.count s [10]) s
  cases hs : Lib.splitK [10] 0 (Lib.count s [10]) s with
  | nil => exact absurd hs this
  | cons x y => rfl
theorem pass_trim : ∀ l : List UInt8, passW l = match Lib.trimLeftS l [32, 9] with | [] => true | b :: _ => decide (b = 35)
  | [] => rfl
  | b :: r => by
    have ih := pass_trim r
    unfold Lib.trimLeftS at *
    rw [passW, List.dropWhile_cons]
    by_cases h : b = 32 ∨ b = 9
    · rw [if_pos h, ih]
      have hc : ([32, 9] : List UInt8).contains b = true := by rcases h with rfl | rfl <;> decide
      rw [if_pos hc]
    · rw [if_neg h]
      have hc : ¬ ([32, 9] : List UInt8).contains b = true := by simpa using h
      rw [if_neg hc]
theorem lines_acc : ∀ (s acc : List UInt8), (∀ b ∈ acc, b ≠ 10) → linesW acc s = linesW [] (acc ++ s)
  | s, [], _ => rfl
  | s, b :: acc, h => by
    have hb : b ≠ 10 := h b (by simp)
    have key : ∀ (t a c : List UInt8), (∀ b ∈ t, b ≠ 10) → linesW a (t ++ c) = linesW (a ++ t) c := by
      intro t
      induction t with
      | nil => intro a c _; simp
      | cons x t ih =>
        intro a c hx
        rw [List.cons_append, linesW, if_neg (hx x (by simp)), ih _ _ (fun b hb => hx b (by simp [hb]))]
        simp
    have := key (b :: acc) [] s h
    rw [this, List.nil_append]
/-- How many lines, and how long. -/
theorem lines_len : ∀ (s acc : List UInt8), (linesW acc s).length ≤ s.length + 1
  | [], acc => by simp [linesW]
  | b :: r, acc => by
    rw [linesW]
    split
    · have := lines_len r []; simp only [List.length_cons]; omega
    · have := lines_len r (acc ++ [b]); simp only [List.length_cons]; omega
theorem lines_mem : ∀ (s acc : List UInt8), ∀ l ∈ linesW acc s, l.length ≤ acc.length + s.length
  | [], acc, l, h => by simp only [linesW, List.mem_cons, List.not_mem_nil, or_false] at h; subst h; simp
  | b :: r, acc, l, h => by
    rw [linesW] at h
    split at h
    · rcases List.mem_cons.1 h with rfl | h
      · simp
      · have := lines_mem r [] l h; simp only [List.length_cons, List.length_nil] at *; omega
    · have := lines_mem r (acc ++ [b]) l h; simp only [List.length_append, List.length_cons, List.length_nil] at *; omega
end Go.Proofs.YtblojlaifnmimaaGreatDoor
