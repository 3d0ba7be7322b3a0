import Derived.Test.YtdhkdniddjnigaaGreatDoorPx29
import Derived.Test.YtdhkdniddjnigaaGreatDoorD9
import Derived.Test.YtdhkdniddjnigaaGreatDoorSpLaw
import Derived.Test.YtdhkdniddjnigaaGreatDoorJoin2
namespace Go.Proofs.YtdhkdniddjnigaaGreatDoor
open Go.RowKit
set_option linter.unusedVariables false

/-- What a line asks for. -/
structure Wi where
  no : Int
  ask : Bool
  who : Int
  o : OpR
/-- What is known of a gate but for what it tells. -/
structure Gs where
  no : Int
  tx : List UInt8
  long : Bool
  uw : Int
  ws : List Wi
  x : Px
  n1 : Int
  n2 : Int
/-- What a call makes: how the gate stands, what is said, what is told. -/
structure Go where
  s : Gs
  ms : List Ms
  tl : List UInt8

def subB : List UInt8 := [115, 117, 98, 109, 105, 116]
def askB : List UInt8 := [97, 115, 107]
def refuB : List UInt8 := [114, 101, 102, 117, 115, 101, 100]
def doneB : List UInt8 := [100, 111, 110, 101]
def toldB : List UInt8 := [116, 111, 108, 100]

/-- A line that is told. -/
def lnB (no : Int) (l : Ws) : List UInt8 := joinW (Lib.itoa no :: l) ++ [10]
def refL (no e : Int) : List UInt8 := lnB no [refuB, Lib.itoa e]

inductive Rd where
  | err (e : Int)
  | none
  | wish (ask : Bool) (who : Int) (o : OpR)
/-- An op behind which nothing is left. -/
def opRd (l : Ws) : Int × OpR := if (readO l).e ≠ 0 then ((readO l).e, ⟨0, [], [], 0, 0⟩) else if (readO l).k < l.length then (164, ⟨0, [], [], 0, 0⟩) else (0, (readO l).o)
def reqR (l : Ws) : Rd := if (opRd l).1 ≠ 0 then .err (opRd l).1 else .wish false 0 (opRd l).2
def queR (l : Ws) : Rd := match l with
  | [] => .err 162
  | x :: r => match numW x with
    | Option.none => .err 163
    | some n => if (opRd r).1 ≠ 0 then .err (opRd r).1 else .wish true (n : Int) (opRd r).2
def wishR (l : Ws) : Rd := match l with
  | [] => .none
  | x :: r => if x = subB then reqR r else if x = askB then queR r else .err 230
/-- What a line says. -/
def readM (tx : List UInt8) (long : Bool) : Rd := if long then .err 160 else if (splitW tx).err ≠ 0 then .err ((splitW tx).err : Int) else wishR (splitW tx).ws

def Wi.chk (w : Wi) : Int := chkA w.o.k (⟨w.o.nm.toArray⟩ : ByteArray).size (⟨w.o.tx.toArray⟩ : ByteArray).size (w.o.n : Int) (w.o.m : Int)
/-- Why a wish is refused when it begins. -/
def bgE (x : Px) (w : Wi) : Int :=
  if w.chk ≠ 0 then w.chk else
    if w.ask then (if ¬ (6 ≤ w.o.k ∧ w.o.k ≤ 8) then 56 else if w.who < 0 ∨ x.n ≤ w.who then 1 else if x.qu.wts then 141 else if x.qu.num = 1099511627776 then 142 else 0)
    else (if x.rq.wts then 141 else if x.rq.num = 1099511627776 then 142 else 0)
def bgX (x : Px) (w : Wi) (n1 n2 : Int) : Px := if w.ask then x.asked w.o.k ⟨w.o.nm.toArray⟩ ⟨w.o.tx.toArray⟩ (w.o.n : Int) (w.o.m : Int) n2 w.who else x.sub w.o.k ⟨w.o.nm.toArray⟩ ⟨w.o.tx.toArray⟩ (w.o.n : Int) (w.o.m : Int) n1
def bgM (x : Px) (w : Wi) (n1 n2 : Int) : Ms := if w.ask then asM x.id w.who x.seen (bgX x w n1 n2).qu else rqM x.id (x.view.tmod x.n) (bgX x w n1 n2).rq
def bgS (m : Int) (s : Gs) (w : Wi) (r : List Wi) : Gs := { s with uw := w.no, ws := r, x := bgX s.x w s.n1 s.n2, n1 := if w.ask then s.n1 else min (2 * s.n1) m, n2 := if w.ask then min (2 * s.n2) m else s.n2 }
/-- What waits begins. -/
def goL (m : Int) (s : Gs) : List Wi → Go
  | [] => ⟨{ s with ws := [] }, [], []⟩
  | w :: r => if bgE s.x w = 0 then ⟨bgS m s w r, [bgM s.x w s.n1 s.n2], []⟩ else ⟨(goL m s r).s, (goL m s r).ms, refL w.no (bgE s.x w) ++ (goL m s r).tl⟩
def goM (m : Int) (s : Gs) : Go := if s.uw = 0 then goL m s s.ws else ⟨s, [], []⟩
/-- A finished line. -/
def hearM (m : Int) (s : Gs) : Go := match readM s.tx s.long with
  | .err e => ⟨s, [], refL s.no e⟩
  | .none => ⟨s, [], []⟩
  | .wish a w o => if s.ws.length = 16 then ⟨s, [], refL s.no 231⟩ else goM m { s with ws := s.ws ++ [⟨s.no, a, w, o⟩] }
def nxtM (s : Gs) : Gs := { s with no := s.no + 1, tx := [], long := false }
def addM (s : Gs) (p : List UInt8) : Gs := if s.long ∨ 8192 < s.tx.length + p.length then { s with tx := [], long := true } else { s with tx := s.tx ++ p }
/-- Bytes that are fed. -/
def feedM (m : Int) (s : Gs) : List UInt8 → Go
  | [] => ⟨s, [], []⟩
  | c :: r => if c = 10 then ⟨(feedM m (nxtM (hearM m s).s) r).s, (hearM m s).ms ++ (feedM m (nxtM (hearM m s).s) r).ms, (hearM m s).tl ++ (feedM m (nxtM (hearM m s).s) r).tl⟩ else feedM m (addM s [c]) r

theorem feedM_append (m : Int) (a b : List UInt8) : ∀ s, feedM m s (a ++ b) = ⟨(feedM m (feedM m s a).s b).s, (feedM m s a).ms ++ (feedM m (feedM m s a).s b).ms, (feedM m s a).tl ++ (feedM m (feedM m s a).s b).tl⟩ := by
  induction a with
  | nil => intro s; simp [feedM]
  | cons c r ih =>
    intro s
    simp only [List.cons_append, feedM]
    split
    · simp [ih, List.append_assoc]
    · rw [ih]
/-- Of a line that is too long nothing is kept. -/
def Gs.ok (s : Gs) : Prop := (s.long = true → s.tx = []) ∧ s.tx.length ≤ 8192
theorem addM_nil {s : Gs} (h : s.ok) : addM s [] = s := by
  obtain ⟨no, tx, long, uw, ws, x, n1, n2⟩ := s
  have h1 := h.1
  have h2 := h.2
  simp only at h1 h2
  unfold addM
  cases long with
  | true => simp [h1 rfl]
  | false => simp only [Bool.false_eq_true, false_or, List.length_nil, Nat.add_zero, List.append_nil]; rw [if_neg (by omega)]
theorem addM_ok {s : Gs} (h : s.ok) (p : List UInt8) : (addM s p).ok := by
  unfold addM
  split
  · exact ⟨fun _ => rfl, by simp⟩
  · rename_i hh
    simp only [not_or, Bool.not_eq_true] at hh
    refine ⟨fun e => ?_, ?_⟩
    · have : s.long = true := e
      rw [hh.1] at this; cases this
    · show (s.tx ++ p).length ≤ 8192
      rw [List.length_append]; omega
theorem addM_add (s : Gs) (p q : List UInt8) : addM (addM s p) q = addM s (p ++ q) := by
  unfold addM
  by_cases h1 : s.long = true ∨ 8192 < s.tx.length + p.length
  · rw [if_pos h1, if_pos (Or.inl rfl), if_pos (by rcases h1 with h | h; exact Or.inl h; exact Or.inr (by rw [List.length_append]; omega))]
  · have h1' := h1
    simp only [not_or, Bool.not_eq_true] at h1'
    rw [if_neg h1]
    by_cases h2 : 8192 < (s.tx ++ p).length + q.length
    · rw [if_pos (Or.inr h2), if_pos (Or.inr (by rw [List.length_append] at h2; rw [List.length_append]; omega))]
    · rw [if_neg (by simp [h1'.1]; rw [List.length_append] at h2; omega), if_neg (by rw [not_or]; exact ⟨by simp [h1'.1], by rw [List.length_append] at h2; rw [List.length_append]; omega⟩)]
      simp
/-- A piece without a line's end. -/
theorem feedM_piece {m : Int} {p r : List UInt8} (hp : (10 : UInt8) ∉ p) : ∀ {s : Gs}, s.ok → feedM m s (p ++ r) = feedM m (addM s p) r := by
  induction p with
  | nil => intro s h; rw [addM_nil h]; rfl
  | cons c p ih =>
    intro s h
    have hc : c ≠ 10 := fun e => hp (by simp [e])
    show (if c = 10 then _ else feedM m (addM s [c]) (p ++ r)) = _
    rw [if_neg hc, ih (fun h' => hp (by simp [h'])) (addM_ok h _), addM_add]
    rfl
end Go.Proofs.YtdhkdniddjnigaaGreatDoor
