import Derived.Test.YthjoppgomopkfaaList
import Derived.Test.YthjoppgomopkfaaLog3
import Derived.Test.YthjoppgomopkfaaRow
namespace Go.Proofs.Ythjoppgomopkfaa
open Go.RowKit
set_option linter.unusedVariables false

/-- A new list of entries. -/
def NewEnts (w w' : World) (v : Value) (out : List Ent) : Prop := (v = .slice none 0 0 ∧ out = []) ∨ ∃ H, v = .slice (some ⟨H, 0, none⟩) out.length out.length ∧ H = w.heap.size + 1 ∧ w'.heap[H]? = some (.cells (flatE out).toArray 39 (0, 0))
theorem All.newEnts {cs : List Comp} {w w' : World} {v : Value} {out : List Ent} (h : All cs w) (hb : Below w.heap.size w w') (hn : NewEnts w w' v out) (hl : out.length ≤ maxLen) : All (entC v out :: cs) w' := by
  rcases hn with ⟨rfl, rfl⟩ | ⟨H, rfl, h1, h2⟩
  · exact (h.later hb).addRow0
  · refine h.add (Fr.below hb) (rowC_good _ _ _ _ _) ⟨by rw [flatE_len], Or.inr ⟨H, out.length, (flatE out).toArray, rfl, Nat.zero_le _, h2, Nat.le_refl _, hl, by rw [List.size_toArray, flatE_len], by rw [← flatE_len]; simp⟩⟩ (fun k hk => ?_)
    have : k = H := by simpa [rowC, Value.ownBlock, eq_comm] using hk
    subst this
    exact ⟨by omega, (Array.getElem?_eq_some_iff.1 h2).1⟩

theorem LogOk.list {b n : Nat} {l ps : List Ent} (k : LogOk b n l ps) {o m : Nat} (h1 : b < o) (h2 : o ≤ b + l.length) (hm : m ≤ b + l.length - o + 1) : (ps.drop (o % n) ++ ps).take m = (l.drop (o - b - 1)).take m := by
  have hp := Nat.mod_lt o k.pos
  have hf := k.few
  have hlen := k.len
  refine List.ext_getElem? fun i => ?_
  rw [List.getElem?_take, List.getElem?_take]
  split
  case isFalse => rfl
  rename_i hi
  rw [List.getElem?_drop]
  obtain ⟨e, he⟩ : ∃ e, l[o - b - 1 + i]? = some e := ⟨_, List.getElem?_eq_getElem (by omega)⟩
  have hpl := k.place _ _ he
  rw [show b + 1 + (o - b - 1 + i) = o + i by omega] at hpl
  rw [he, ← hpl]
  have hin : i < n := by omega
  have hmod : (o + i) % n = if o % n + i < n then o % n + i else o % n + i - n := by
    rw [Nat.add_mod, Nat.mod_eq_of_lt hin]
    split
    · rename_i h; exact Nat.mod_eq_of_lt h
    · rename_i h; rw [Nat.mod_eq_sub_mod (by omega), Nat.mod_eq_of_lt (by omega)]
  rw [hmod]
  by_cases hc : o % n + i < n
  · rw [if_pos hc, List.getElem?_append_left (by simp; omega), List.getElem?_drop]
  · rw [if_neg hc, List.getElem?_append_right (by simp; omega)]
    congr 1
    simp; omega

/-- What From tells. -/
def fromL (b : Nat) (l : List Ent) (k ms : Int) : List Ent := if (b : Int) < k ∧ k ≤ (b + l.length : Nat) ∧ 1 ≤ ms then (l.drop (k.toNat - b - 1)).take ms.toNat else []

set_option maxRecDepth 1000000 in
theorem From_any {g h b n : Nat} {l ps : List Ent} {w : World} (hd : HeadAt w g b (b + l.length) h n) (hr : w.heap[h]? = some (.cells (flatE ps).toArray 39 (0, 0))) (K : LogOk b n l ps) (k ms : Int) (hms : ms < 9223372036854775808) : Calls Try.prog 28 #[.pointer (some ⟨g, 0, none⟩), .int .i64 k, .int .i64 ms] w fun e w' => ∃ v, e = .returned v ∧ Below w.heap.size w w' ∧ NewEnts w w' v (fromL b l k ms) := by
  have H1 := hid (has_any hd k)
  by_cases hk : (b : Int) < k ∧ k ≤ ((b + l.length : Nat) : Int)
  case neg =>
    rw [decide_eq_false hk] at H1
    have e : fromL b l k ms = [] := by unfold fromL; rw [if_neg (by intro h; exact hk ⟨h.1, h.2.1⟩)]
    clear hd hr K hk
    go_enter Try.func28, Try.ntmps28
    go_wp2_with fail
    refine H1.out.mono ?_
    rintro e w1 ⟨rfl, rfl⟩
    go_wp2
    go_ret
    exact ⟨_, rfl, Below.refl _ _, .inl ⟨rfl, e⟩⟩
  rw [decide_eq_true hk] at H1
  by_cases hm1 : ms < 1
  · have q1 : decide (ms < 1) = true := decide_eq_true hm1
    have e : fromL b l k ms = [] := by unfold fromL; rw [if_neg (by intro h; omega)]
    clear hd hr K hk
    go_enter Try.func28, Try.ntmps28
    go_wp2_with fail
    refine H1.out.mono ?_
    rintro e w1 ⟨rfl, rfl⟩
    go_wp2
    go_ret
    exact ⟨_, rfl, Below.refl _ _, .inl ⟨rfl, e⟩⟩
  have q1 : decide (ms < 1) = false := decide_eq_false hm1
  obtain ⟨o, rfl⟩ : ∃ o : Nat, k = (o : Int) := ⟨k.toNat, by omega⟩
  have h1 : b < o := by omega
  have h2 : o ≤ b + l.length := by omega
  obtain ⟨m, hm⟩ : ∃ m : Nat, (m : Int) = min ms (((b + l.length : Nat) : Int) - (o : Int) + 1) := ⟨(min ms (((b + l.length : Nat) : Int) - (o : Int) + 1)).toNat, by omega⟩
  have hml : m ≤ b + l.length - o + 1 := by omega
  have hf := K.few
  have ht := K.top
  have H2 := hid (fun W (hb : Below w.heap.size w W) => list_core (w := W) (k := o) (m := m) ((hb.block h (Array.getElem?_eq_some_iff.1 hr).1).trans hr) K.len K.pos K.le (by omega) (by omega))
  have E : Hid ((ps.drop (o % n) ++ ps).take m = fromL b l o ms) := hid (by
    rw [K.list h1 h2 hml]
    unfold fromL
    rw [if_pos ⟨by omega, by omega, by omega⟩, Int.toNat_natCast]
    by_cases hc : ms ≤ ((b + l.length : Nat) : Int) - (o : Int) + 1
    · rw [show m = ms.toNat by omega]
    · rw [List.take_of_length_le (i := m) (by simp; omega), List.take_of_length_le (i := ms.toNat) (by simp; omega)])
  have EL : Hid ((fromL b l o ms).length = m) := hid (by
    rw [← E.out, List.length_take, List.length_append, K.len]
    omega)
  have c1 := hd.c1
  have c2 := hd.c2
  clear hd hr K hk h1
  generalize hq : b + l.length = q at *
  have HM := hid hm
  clear hq
  have hw1 : IntKind.i64.wrap ((q : Int) - (o : Int)) = (q : Int) - (o : Int) := by simp [IntKind.wrap, IntKind.bits, IntKind.signed]; omega
  have hw2 : IntKind.i64.wrap ((q : Int) - (o : Int) + 1) = (q : Int) - (o : Int) + 1 := by simp [IntKind.wrap, IntKind.bits, IntKind.signed]; omega
  have em : (m : Int) = (if IntKind.i64.wrap (IntKind.i64.wrap ((q : Int) - (o : Int)) + 1) < ms then IntKind.i64.wrap (IntKind.i64.wrap ((q : Int) - (o : Int)) + 1) else ms) := by
    rw [hw1, hw2, hm]
    split <;> omega
  rw [em] at H2
  clear hm em hml hf HM hw1 hw2
  go_enter Try.func28, Try.ntmps28
  go_wp2_with fail
  refine H1.out.mono ?_
  rintro e w1 ⟨rfl, rfl⟩
  go_upto_region 3 with fail
  go_region_held3 (fun W => W.cell? ⟨g, 2, none⟩ = some (.slice (some ⟨h, 0, none⟩) n n) ∧ W.cell? ⟨g, 1, none⟩ = some (.int .i64 (q : Int))) (go_keep) (first | (go_at_call 45; refine (H2.out _ (bd _)).mono ?_; rintro e w2 ⟨H, rfl, hH0, hz, hb⟩; have hH := hid hH0; clear hH0; have hb' := hid (below2 (bd w1) hb); have c1 := cell_under hb'.out (World.block_lt_of_cell? _ _ c1) c1; have c2 := cell_under hb'.out (World.block_lt_of_cell? _ _ c2) c2; generalize (if IntKind.i64.wrap (IntKind.i64.wrap ((q : Int) - (o : Int)) + 1) < ms then IntKind.i64.wrap (IntKind.i64.wrap ((q : Int) - (o : Int)) + 1) else ms) = zz))
  clear c1 c2
  go_wp2
  go_ret
  rw [E.out] at hz
  exact ⟨.slice (some ⟨H, 0, none⟩) m m, rfl, hb'.out, .inr ⟨H, by rw [EL.out], hH.out, hz⟩⟩
end Go.Proofs.Ythjoppgomopkfaa
