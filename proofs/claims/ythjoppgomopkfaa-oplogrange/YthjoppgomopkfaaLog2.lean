import Derived.Test.YthjoppgomopkfaaLog
namespace Go.Proofs.Ythjoppgomopkfaa
open Go.RowKit
set_option linter.unusedVariables false

theorem mod_ne {a d n : Nat} (h0 : 0 < d) (hd : d < n) : (a + d) % n ≠ a % n := by
  intro h
  have := Nat.sub_mod_eq_zero_of_mod_eq h
  rw [Nat.add_sub_cancel_left, Nat.mod_eq_of_lt hd] at this
  omega

/-- What a log's places hold. -/
structure LogOk (b n : Nat) (l ps : List Ent) : Prop where
  len : ps.length = n
  pos : 0 < n
  le : n ≤ 64
  few : l.length ≤ n
  top : b + l.length ≤ 1099511627776
  place : ∀ (i : Nat) (e : Ent), l[i]? = some e → ps[(b + 1 + i) % n]? = some e

theorem LogOk.new {n : Nat} (h0 : 0 < n) (h : n ≤ 64) (b : Nat) (hb : b ≤ 1099511627776) : LogOk b n [] (List.replicate n Ent.zero) :=
  ⟨by simp, h0, h, by simp, by simpa using hb, fun i e he => by simp at he⟩
theorem LogOk.add {b n : Nat} {l ps : List Ent} (k : LogOk b n l ps) (hf : l.length < n) (ht : b + l.length < 1099511627776) (x : Ent) : LogOk b n (l ++ [x]) (ps.set ((b + l.length + 1) % n) x) := by
  have hm : (b + l.length + 1) % n < n := Nat.mod_lt _ k.pos
  refine ⟨by simp [k.len], k.pos, k.le, by simp; omega, by simp; omega, fun i e he => ?_⟩
  by_cases hi : i < l.length
  · rw [List.getElem?_append_left hi] at he
    have := mod_ne (a := b + 1 + i) (d := l.length - i) (n := n) (by omega) (by omega)
    rw [List.getElem?_set_ne (by rw [show b + l.length + 1 = b + 1 + i + (l.length - i) by omega]; exact this)]
    exact k.place i e he
  · have hl := (List.getElem?_eq_some_iff.1 he).1
    have : i = l.length := by simp at hl; omega
    subst this
    rw [show b + 1 + l.length = b + l.length + 1 by omega, List.getElem?_set_self (by rw [k.len]; exact hm)]
    simpa using he
theorem LogOk.cut1 {b n : Nat} {e : Ent} {l ps : List Ent} (k : LogOk b n (e :: l) ps) (z : Ent) : LogOk (b + 1) n l (ps.set ((b + 1) % n) z) := by
  have h1 := k.few
  have h2 := k.top
  simp only [List.length_cons] at h1 h2
  refine ⟨by simp [k.len], k.pos, k.le, by omega, by omega, fun i x hx => ?_⟩
  have hi := (List.getElem?_eq_some_iff.1 hx).1
  have := mod_ne (a := b + 1) (d := i + 1) (n := n) (by omega) (by omega)
  rw [show b + 1 + 1 + i = b + 1 + (i + 1) by omega, List.getElem?_set_ne (fun h => this h.symm)]
  exact k.place (i + 1) x (by simpa using hx)
theorem LogOk.at {b n : Nat} {l ps : List Ent} (k : LogOk b n l ps) {o : Nat} (h1 : b < o) (h2 : o ≤ b + l.length) : ∃ e, l[o - b - 1]? = some e ∧ ps[o % n]? = some e := by
  obtain ⟨e, he⟩ : ∃ e, l[o - b - 1]? = some e := ⟨_, List.getElem?_eq_getElem (by omega)⟩
  have := k.place _ _ he
  rw [show b + 1 + (o - b - 1) = o by omega] at this
  exact ⟨e, he, this⟩

/-- What Add answers. -/
def addE (b n : Nat) (l : List Ent) : Int := if l.length = n then 91 else if b + l.length = 1099511627776 then 93 else 0

set_option maxRecDepth 1000000 in
theorem Add_full {g h b n : Nat} {l ps : List Ent} {cs : List Comp} {w : World} (hA : All (logP g h b (b + l.length) n ps ++ cs) w) (k : LogOk b n l ps) (x : Ent) (hf : l.length = n) : Calls Try.prog 17 #[.pointer (some ⟨g, 0, none⟩), x.V] w fun e w' => e = .returned (.int .i64 91) ∧ All (logP g h b (b + l.length) n ps ++ cs) w' := by
  have A1 := hid (hA.alloc (.cells #[.int .i64 x.c, .int .i64 x.n, .int .i64 x.k, .string x.nm, .string x.tx, .int .i64 x.m, .int .i64 x.q] 39))
  have H1 := hid (Room_any A1.out.head (by omega) k.top k.le (by have := k.few; omega))
  have e0 : n - (b + l.length - b) = 0 := by omega
  rw [e0] at H1
  clear hA k e0
  go_enter Try.func17, Try.ntmps17
  go_wp2_with fail
  refine H1.out.mono ?_
  rintro e w1 ⟨rfl, hb⟩
  have A2 := hid (A1.out.later hb)
  clear H1 A1 hb
  go_wp2
  go_ret
  exact ⟨rfl, A2.out⟩

set_option maxRecDepth 1000000 in
theorem Add_end {g h b n : Nat} {l ps : List Ent} {cs : List Comp} {w : World} (hA : All (logP g h b (b + l.length) n ps ++ cs) w) (k : LogOk b n l ps) (x : Ent) (hf : l.length < n) (ht : b + l.length = 1099511627776) : Calls Try.prog 17 #[.pointer (some ⟨g, 0, none⟩), x.V] w fun e w' => e = .returned (.int .i64 93) ∧ All (logP g h b (b + l.length) n ps ++ cs) w' := by
  have A1 := hid (hA.alloc (.cells #[.int .i64 x.c, .int .i64 x.n, .int .i64 x.k, .string x.nm, .string x.tx, .int .i64 x.m, .int .i64 x.q] 39))
  have H1 := hid (Room_any A1.out.head (by omega) k.top k.le (by have := k.few; omega))
  have e0 : n - (b + l.length - b) = n - l.length := by omega
  rw [e0] at H1
  have HK := k.le
  clear hA k e0
  generalize hr : n - l.length = r at *
  have e0 : ((r : Int) == 0) = false := by simp; omega
  have e1 : ¬ (r : Int) = 0 := by omega
  go_enter Try.func17, Try.ntmps17
  go_wp2_with fail
  refine H1.out.mono ?_
  rintro e w1 ⟨rfl, hb⟩
  have A2 := hid (A1.out.later hb)
  have c1 := A2.out.head.c1
  rw [ht] at c1
  clear H1 A1 hb
  go_wp2
  go_ret
  exact ⟨rfl, A2.out⟩

set_option maxRecDepth 1000000 in
theorem Add_ok {g h b n : Nat} {l ps : List Ent} {cs : List Comp} {w : World} (hA : All (logP g h b (b + l.length) n ps ++ cs) w) (k : LogOk b n l ps) (x : Ent) (hf : l.length < n) (ht : b + l.length < 1099511627776) : Calls Try.prog 17 #[.pointer (some ⟨g, 0, none⟩), x.V] w fun e w' => e = .returned (.int .i64 0) ∧ All (logP g h b (b + l.length + 1) n (ps.set ((b + l.length + 1) % n) x) ++ cs) w' := by
  have A1 : Hid (All (blkC w.heap.size x.cells 39 :: (logP g h b (b + l.length) n ps ++ cs)) (w.alloc (.cells #[.int .i64 x.c, .int .i64 x.n, .int .i64 x.k, .string x.nm, .string x.tx, .int .i64 x.m, .int .i64 x.q] 39))) := hid (hA.addBlk x.cells 39)
  have H1 := hid (Room_any A1.out.tail.head (by omega) k.top k.le (by have := k.few; omega))
  have e0 : n - (b + l.length - b) = n - l.length := by omega
  rw [e0] at H1
  have HK := hid k
  clear hA k e0
  generalize hr : n - l.length = r at *
  have e0 : ((r : Int) == 0) = false := by simp; omega
  have e1 : ¬ (r : Int) = 0 := by omega
  have HL := hid (fun W A => lay_any (g := g) (h := h) (b := b) (o := b + l.length) (n := n) (ps := ps) (cs := cs) (w := W) A HK.out.len HK.out.pos HK.out.le ht x)
  go_enter Try.func17, Try.ntmps17
  go_wp2_with fail
  refine H1.out.mono ?_
  rintro e w1 ⟨rfl, hb⟩
  have A2 := hid (A1.out.later hb)
  have c1 := A2.out.tail.head.c1
  obtain ⟨s1, s2, s3, s4, s5, s6, s7⟩ := entAt_of (range_one A2.out.1.2.1)
  clear H1 A1 hb HK
  generalize hq : b + l.length = q at *
  have e2 : ((q : Int) == 1099511627776) = false := by simp; omega
  have e3 : ¬ (q : Int) = 1099511627776 := by omega
  go_wp2_with fail
  refine (HL.out _ A2.out.tail).mono ?_
  rintro e w2 ⟨rfl, A3⟩
  have A3 := hid A3
  clear s1 s2 s3 s4 s5 s6 s7 HL A2 c1
  go_wp2
  go_ret
  subst hq
  exact ⟨rfl, A3.out⟩

theorem Add_any {g h b n : Nat} {l ps : List Ent} {cs : List Comp} {w : World} (hA : All (logP g h b (b + l.length) n ps ++ cs) w) (k : LogOk b n l ps) (x : Ent) : Calls Try.prog 17 #[.pointer (some ⟨g, 0, none⟩), x.V] w fun e w' => e = .returned (.int .i64 (addE b n l)) ∧ ∃ l' ps', l' = (if addE b n l = 0 then l ++ [x] else l) ∧ LogOk b n l' ps' ∧ All (logP g h b (b + l'.length) n ps' ++ cs) w' := by
  have hf := k.few
  by_cases h1 : l.length = n
  · refine (Add_full hA k x h1).mono ?_
    rintro e w' ⟨rfl, A⟩
    exact ⟨by simp [addE, h1], l, ps, by simp [addE, h1], k, A⟩
  · by_cases h2 : b + l.length = 1099511627776
    · refine (Add_end hA k x (by omega) h2).mono ?_
      rintro e w' ⟨rfl, A⟩
      exact ⟨by simp [addE, h1, h2], l, ps, by simp [addE, h1, h2], k, A⟩
    · have ht := k.top
      refine (Add_ok hA k x (by omega) (by omega)).mono ?_
      rintro e w' ⟨rfl, A⟩
      refine ⟨by simp [addE, h1, h2], l ++ [x], _, by simp [addE, h1, h2], k.add (by omega) (by omega) x, ?_⟩
      rw [List.length_append, List.length_cons, List.length_nil, ← Nat.add_assoc]
      exact A
end Go.Proofs.Ythjoppgomopkfaa
