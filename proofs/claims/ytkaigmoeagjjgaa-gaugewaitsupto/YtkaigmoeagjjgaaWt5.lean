import Derived.Test.YtkaigmoeagjjgaaWt3
import Derived.Test.YtkaigmoeagjjgaaLaid
import Derived.Maps.Ext
import Derived.Maps.OwnOps
import Derived.DeepKeys4
namespace Go.Proofs.Ytkaigmoeagjjgaa
open Go.RowKit
open Go.Maps (Keyed)
set_option linter.unusedVariables false

theorem law78 : Keyed Try.prog 78 := Keyed.of_law (deep_law_laid Try.laidOut (m := 2) (by omega) (of_decide_eq_true (by kernel_rfl)) (by kernel_rfl) (by kernel_rfl))
def KL (a n : Int) : Lit := .string (keyBytes [.int .i64 a, .int .i64 n])
theorem key78 {a n : Int} (ha : (Lit.int .i64 a).wf = true) (hn : (Lit.int .i64 n).wf = true) : keyOf Try.prog 78 (.agg #[.int .i64 a, .int .i64 n]) = some (KL a n) := by
  unfold keyOf
  rw [Try.underlying78]
  have h1 : Try.prog.keyType 78 = true := by kernel_rfl
  have h2 : (Value.agg #[.int .i64 a, .int .i64 n]).formed Try.prog 78 = true := by
    simp [Value.formed, Try.underlying78]
    kernel_rfl
  have hN : ∃ m, Try.prog.types.size = m + 1 := ⟨Try.prog.types.size - 1, by kernel_rfl⟩
  obtain ⟨m, hm⟩ := hN
  simp only [h1, h2, Bool.and_self, if_true, hm]
  have hc3 : Try.prog.cellsOf 3 = 1 := by kernel_rfl
  have hc78 : Try.prog.cellsOf 78 = 2 := by kernel_rfl
  simp [Program.keyLits, Try.underlying78, Try.underlying3, Value.cells, ha, hn, KL, hc3, hc78]
theorem KL_key {a n : Int} (ha : (Lit.int .i64 a).wf = true) (hn : (Lit.int .i64 n).wf = true) : WideAt.IsKeyLit (KL a n) := law78.key (key78 ha hn)
theorem KL_inj {a n b m : Int} (ha : (Lit.int .i64 a).wf = true) (hn : (Lit.int .i64 n).wf = true) (hb : (Lit.int .i64 b).wf = true) (hm : (Lit.int .i64 m).wf = true) (h : KL a n = KL b m) : a = b ∧ n = m := by
  have := law78.inj (key78 ha hn) (h ▸ key78 hb hm)
  simpa using this

/-! what the map says of the spans -/
noncomputable abbrev rE : Value → Option (DataW Unit × List MemPlace) := plainElem Try.prog 3
theorem zero3 (w : World) : (zeroValue 3).run Try.prog w = .ok (.int .i64 0) w := by kernel_rfl
theorem Try.und57 : Try.prog.underlying 57 = some (.map 78 3) := by kernel_rfl
def atI (D : DataW Unit) (a n : Int) : Int := match D.atKey (KL a n) (.lit (.int .i64 0)) with
  | .lit (.int _ n) => n
  | _ => 0
theorem look78 {w : World} {b n : Nat} {D : DataW Unit} (h : w.ownsMap Try.prog 78 rE b n D) {x y : Int} (hx : (Lit.int .i64 x).wf = true) (hy : (Lit.int .i64 y).wf = true) : (Instr.lookup 57 (.map (some b)) (.agg #[.int .i64 x, .int .i64 y]) true).run Try.prog w = .ok (.tuple #[.int .i64 (atI D x y), .bool (Maps.has D (KL x y))]) w := by
  obtain ⟨v, ps, h1, h2⟩ := h.look_ok law78 Try.und57 (zero3 w) (zd := .lit (.int .i64 0)) (zp := []) (plainElem_int Try.underlying3 (by decide)) (key78 hx hy)
  rw [h1]
  obtain ⟨a, rfl, e, _⟩ := plainElem_int_inv Try.underlying3 h2
  simp only [Prod.mk.injEq] at e
  unfold atI
  rw [e.1]
def okI (a : Int) : Prop := (Lit.int .i64 a).wf = true
structure Says (D : DataW Unit) (S : List Sp) : Prop where
  isMap : Maps.IsMap D
  wf : ∀ x ∈ S, okI x.a ∧ okI x.n
  one : ∀ (i j : Nat) (x y : Sp), S[i]? = some x → S[j]? = some y → x.d = false → y.d = false → x.a = y.a → x.n = y.n → i = j
  says : ∀ a n, okI a → okI n → (opn S a n = none → Maps.has D (KL a n) = false) ∧ ∀ i, opn S a n = some i → Maps.has D (KL a n) = true ∧ D.atKey (KL a n) (.lit (.int .i64 0)) = .lit (.int .i64 i)
theorem Says.atI {D : DataW Unit} {S : List Sp} (h : Says D S) {a n : Int} (ha : okI a) (hn : okI n) {i : Nat} (hi : opn S a n = some i) : atI D a n = (i : Int) := by
  have := ((h.says a n ha hn).2 i hi).2
  unfold Go.Proofs.Ytkaigmoeagjjgaa.atI
  rw [this]
theorem opn_snoc (S : List Sp) (x : Sp) (a n : Int) : opn (S ++ [x]) a n = (match opn S a n with | some i => some i | none => if isOp a n x = true then some S.length else none) := by
  unfold opn
  rw [List.findIdx?_append]
  cases h : List.findIdx? (isOp a n) S with
  | some i => rfl
  | none =>
    cases c : isOp a n x <;> simp [List.findIdx?_cons, c]
theorem Says.nil : Says (.map []) [] := ⟨⟨[], rfl⟩, fun x hx => by simp at hx, fun i j x y h => by simp at h, fun a n _ _ => ⟨fun _ => rfl, fun i hi => by simp [opn] at hi⟩⟩
theorem Says.begin {D : DataW Unit} {S : List Sp} (h : Says D S) {a n s : Int} (ha : okI a) (hn : okI n) (ho : opn S a n = none) : Says (D.put (KL a n) (.lit (.int .i64 S.length))) (S ++ [⟨a, n, s, 0, false⟩]) := by
  have hnone : ∀ (i : Nat) (x : Sp), S[i]? = some x → x.d = false → x.a = a → x.n = n → False := fun i x hx h1 h2 h3 => by
    have := List.findIdx?_eq_none_iff.1 ho x (List.mem_of_getElem? hx)
    unfold isOp at this
    rw [h1, decide_eq_true h2, decide_eq_true h3] at this
    cases this
  have hget : ∀ (i : Nat) (x : Sp), (S ++ [(⟨a, n, s, 0, false⟩ : Sp)])[i]? = some x → S[i]? = some x ∨ (i = S.length ∧ x = ⟨a, n, s, 0, false⟩) := fun i x hx => by
    by_cases c : i < S.length
    · rw [List.getElem?_append_left c] at hx; exact .inl hx
    · rw [List.getElem?_append_right (by omega)] at hx
      have hi := (List.getElem?_eq_some_iff.1 hx).1
      simp only [List.length_singleton] at hi
      have : i = S.length := by omega
      subst this
      simp at hx
      exact .inr ⟨rfl, hx.symm⟩
  refine ⟨Maps.IsMap.put h.isMap _ _, fun x hx => ?_, fun i j x y hx hy h1 h2 h3 h4 => ?_, fun b m hb hm => ?_⟩
  · rcases List.mem_append.1 hx with hx | hx
    · exact h.wf x hx
    · rw [List.mem_singleton] at hx; subst hx; exact ⟨ha, hn⟩
  · rcases hget i x hx with hx | ⟨rfl, rfl⟩ <;> rcases hget j y hy with hy | ⟨rfl, rfl⟩
    · exact h.one i j x y hx hy h1 h2 h3 h4
    · exact (hnone i x hx h1 h3 h4).elim
    · exact (hnone j y hy h2 h3.symm h4.symm).elim
    · rfl
  · rw [opn_snoc]
    by_cases c : a = b ∧ n = m
    · obtain ⟨rfl, rfl⟩ := c
      rw [ho]
      have e : isOp a n ⟨a, n, s, 0, false⟩ = true := by simp [isOp]
      simp only [e, if_true]
      refine ⟨(fun h => by cases h), fun i hi => ?_⟩
      cases hi
      exact ⟨Maps.has_put_same h.isMap (KL_key ha hn) _, Maps.atKey_put_same h.isMap (KL_key ha hn) _ _⟩
    · have e : isOp b m ⟨a, n, s, 0, false⟩ = false := by
        unfold isOp
        by_cases c1 : a = b
        · rw [decide_eq_true c1, decide_eq_false (fun e => c ⟨c1, e⟩)]; rfl
        · rw [decide_eq_false c1]; rfl
      have hne : KL b m ≠ KL a n := fun e => c ⟨(KL_inj hb hm ha hn e).1.symm, (KL_inj hb hm ha hn e).2.symm⟩
      simp only [e]
      rw [Maps.has_put_other hne, Maps.atKey_put_other hne]
      have := h.says b m hb hm
      cases ho2 : opn S b m with
      | none => exact ⟨fun _ => this.1 ho2, fun i hi => by simp at hi⟩
      | some i => exact ⟨(fun h => by cases h), fun j hj => (by cases hj; exact this.2 i ho2)⟩
theorem opn_is {S : List Sp} {a n : Int} {i : Nat} (h : opn S a n = some i) : ∃ x, S[i]? = some x ∧ x.d = false ∧ x.a = a ∧ x.n = n := by
  unfold opn at h
  rw [List.findIdx?_eq_some_iff_getElem] at h
  obtain ⟨hi, h1, _⟩ := h
  refine ⟨_, List.getElem?_eq_getElem hi, ?_⟩
  unfold isOp at h1
  simpa using h1
theorem Says.end {D : DataW Unit} {S : List Sp} (h : Says D S) {a n t : Int} (ha : okI a) (hn : okI n) {i : Nat} {x : Sp} (ho : opn S a n = some i) (hx : S[i]? = some x) : Says (D.del (KL a n)) (S.set i { x with t := t, d := true }) := by
  obtain ⟨x', hx', xd, xa, xn⟩ := opn_is ho
  rw [hx] at hx'
  cases hx'
  have hi := (List.getElem?_eq_some_iff.1 hx).1
  have hget : ∀ (j : Nat) (y : Sp), (S.set i { x with t := t, d := true })[j]? = some y → (j ≠ i ∧ S[j]? = some y) ∨ (j = i ∧ y = { x with t := t, d := true }) := fun j y hy => by
    rw [List.getElem?_set] at hy
    by_cases c : i = j
    · subst c
      rw [if_pos rfl, if_pos hi] at hy
      exact .inr ⟨rfl, (Option.some.inj hy).symm⟩
    · rw [if_neg c] at hy
      exact .inl ⟨fun e => c e.symm, hy⟩
  refine ⟨Maps.IsMap.del h.isMap _, fun y hy => ?_, fun j k y z hy hz h1 h2 h3 h4 => ?_, fun b m hb hm => ?_⟩
  · rcases List.mem_or_eq_of_mem_set hy with hy | rfl
    · exact h.wf y hy
    · exact h.wf x (List.mem_of_getElem? hx)
  · rcases hget j y hy with ⟨_, hy⟩ | ⟨rfl, rfl⟩ <;> rcases hget k z hz with ⟨_, hz⟩ | ⟨rfl, rfl⟩
    · exact h.one j k y z hy hz h1 h2 h3 h4
    · cases h2
    · cases h1
    · rfl
  · by_cases c : a = b ∧ n = m
    · obtain ⟨rfl, rfl⟩ := c
      have hnone : opn (S.set i { x with t := t, d := true }) a n = none := by
        unfold opn
        rw [List.findIdx?_eq_none_iff]
        intro y hy
        obtain ⟨j, hj⟩ := List.mem_iff_getElem?.1 hy
        rcases hget j y hj with ⟨hne, hy⟩ | ⟨rfl, rfl⟩
        · cases hop : isOp a n y with
          | false => rfl
          | true =>
            unfold isOp at hop
            simp only [Bool.and_eq_true, Bool.not_eq_true', decide_eq_true_eq] at hop
            exact (hne (h.one j i y x hy hx hop.1 xd (hop.2.1.trans xa.symm) (hop.2.2.trans xn.symm))).elim
        · rfl
      rw [hnone]
      exact ⟨fun _ => Maps.has_del_same, fun j hj => by cases hj⟩
    · have hne : KL b m ≠ KL a n := fun e => c ⟨(KL_inj hb hm ha hn e).1.symm, (KL_inj hb hm ha hn e).2.symm⟩
      have e : isOp b m x = false := by
        unfold isOp
        by_cases c1 : x.a = b
        · rw [decide_eq_true c1, decide_eq_false (fun e => c ⟨xa.symm.trans c1, xn.symm.trans e⟩)]; simp
        · rw [decide_eq_false c1]; simp
      have hsame : opn (S.set i { x with t := t, d := true }) b m = opn S b m := by
        have hmap : (S.set i { x with t := t, d := true }).map (isOp b m) = S.map (isOp b m) := by
          apply List.ext_getElem?
          intro j
          rw [List.getElem?_map, List.getElem?_map, List.getElem?_set]
          by_cases c : i = j
          · subst c
            rw [if_pos rfl, if_pos hi, hx]
            simp only [Option.map_some, e]
            rfl
          · rw [if_neg c]
        have e2 := congrArg (List.findIdx? id) hmap
        rw [List.findIdx?_map, List.findIdx?_map] at e2
        exact e2
      rw [hsame, Maps.has_del_other hne, Maps.atKey_del_other hne]
      exact h.says b m hb hm
end Go.Proofs.Ytkaigmoeagjjgaa
