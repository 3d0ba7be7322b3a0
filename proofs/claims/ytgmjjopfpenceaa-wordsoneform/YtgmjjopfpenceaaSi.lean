import Derived.Test.YtgmjjopfpenceaaJn
namespace Go.Proofs.Ytgmjjopfpenceaa
set_option linter.unusedVariables false

/-- The blanks at a line's end taken off. -/
def trimW (l : List UInt8) : List UInt8 := (l.reverse.dropWhile fun b => b.toNat == 32).reverse
theorem trimW_blank (l : List UInt8) (b : UInt8) (h : b.toNat = 32) : trimW (l ++ [b]) = trimW l := by
  simp [trimW, h]
theorem trimW_stop (l : List UInt8) (b : UInt8) (h : b.toNat ≠ 32) : trimW (l ++ [b]) = l ++ [b] := by
  simp [trimW, h]
theorem trimW_nil : trimW [] = [] := rfl

/-- One step of single. -/
def singW : Nat → List UInt8 → Bool → List UInt8 → List UInt8 × Bool
  | 0, out, q, _ => (out, q)
  | n + 1, out, q, [] => (out, q)
  | n + 1, out, q, c :: t =>
    if c.toNat = 32 ∧ q = false then (if out ≠ [] ∧ out.getLast?.map UInt8.toNat ≠ some 32 then singW n (out ++ [c]) q t else singW n out q t)
    else match (if q = true ∧ c.toNat = 92 then t else []) with
      | d :: t' => singW n (out ++ [c] ++ [d]) q t'
      | [] => if c.toNat = 34 then singW n (out ++ [c]) (!q) t else singW n (out ++ [c]) q t
/-- What single makes of a line. -/
def singleW (l : List UInt8) : List UInt8 := (fun p => if p.2 = false then trimW p.1 else p.1) (singW l.length [] false l)

/-- How single stands beside the reader. -/
def Sg (s : St) (ws : Ws) (out : List UInt8) (q : Bool) : Prop :=
  match s with
  | .ahead => q = false ∧ out = preW ws
  | .bare w => q = false ∧ isBareW w = true ∧ out = preW ws ++ w
  | .closed => q = false ∧ ws ≠ [] ∧ out = joinW ws
  | .quote _ w => q = true ∧ out = preW ws ++ (34 :: escW w)
  | _ => False

theorem esc_last (x : List UInt8) : True := trivial
/-- A written word ends in another byte than a blank. -/
theorem wrt_last (x : List UInt8) : ∃ a b, wrtW x = a ++ [b] ∧ b.toNat ≠ 32 := by
  unfold wrtW
  cases hx : isBareW x with
  | true =>
    rw [if_pos rfl]
    obtain ⟨hne, hall⟩ := bareW_all hx
    refine ⟨x.dropLast, x.getLast hne, (List.dropLast_concat_getLast hne).symm, (bare_no (hall _ (List.getLast_mem hne))).1⟩
  | false =>
    rw [if_neg (by simp)]
    exact ⟨34 :: escW x, 34, rfl, by decide⟩
theorem join_last {ws : Ws} (h : ws ≠ []) : ∃ a b, joinW ws = a ++ [b] ∧ b.toNat ≠ 32 := by
  rcases List.eq_nil_or_concat ws with e | ⟨m, c, e⟩
  · exact absurd e h
  · rw [e, List.concat_eq_append, joinW_snoc]
    obtain ⟨a, b, h1, h2⟩ := wrt_last c
    exact ⟨preW m ++ a, b, by rw [h1]; simp, h2⟩
theorem last_snoc (a : List UInt8) (b : UInt8) : (a ++ [b]).getLast?.map UInt8.toNat = some b.toNat := by simp

/-- A blank behind what stands there. -/
theorem sing_blank {n : Nat} {out : List UInt8} {c : UInt8} {t : List UInt8} (hc : c.toNat = 32) : singW (n + 1) out false (c :: t) = if out ≠ [] ∧ out.getLast?.map UInt8.toNat ≠ some 32 then singW n (out ++ [c]) false t else singW n out false t := by
  rw [singW, if_pos ⟨hc, rfl⟩]
theorem sing_plain {n : Nat} {out : List UInt8} {c : UInt8} {q : Bool} {t : List UInt8} (h1 : ¬ (c.toNat = 32 ∧ q = false)) (h2 : ¬ (q = true ∧ c.toNat = 92)) (h3 : c.toNat ≠ 34) : singW (n + 1) out q (c :: t) = singW n (out ++ [c]) q t := by
  rw [singW, if_neg h1, if_neg h2]
  simp only
  rw [if_neg h3]
theorem sing_quote {n : Nat} {out : List UInt8} {c : UInt8} {q : Bool} {t : List UInt8} (h3 : c.toNat = 34) : singW (n + 1) out q (c :: t) = singW n (out ++ [c]) (!q) t := by
  rw [singW, if_neg (by omega), if_neg (by omega)]
  simp only
  rw [if_pos h3]
theorem sing_esc {n : Nat} {out : List UInt8} {c d : UInt8} {t : List UInt8} (h : c.toNat = 92) : singW (n + 1) out true (c :: d :: t) = singW n (out ++ [c] ++ [d]) true t := by
  rw [singW, if_neg (by simp), if_pos ⟨rfl, h⟩]
def finS (p : List UInt8 × Bool) : List UInt8 := if p.2 = false then trimW p.1 else p.1
theorem b_of {c : UInt8} {n : Nat} (h : c.toNat = n) : c = UInt8.ofNat n := by rw [← h]; simp
theorem preW_snoc (ws : Ws) (x : List UInt8) : preW (ws ++ [x]) = joinW (ws ++ [x]) ++ [32] := by simp [preW]

/-- If the reader takes a line, single makes of it what Join does. -/
theorem sing_run : ∀ (m : Nat) (t : List UInt8) (n : Nat) (s : St) (ws : Ws) (k : Nat) (out : List UInt8) (q : Bool) (res : Ws), t.length ≤ m → t.length ≤ n → Sg s ws out q → runW s ws k t = .ok res → finS (singW n out q t) = joinW res := by
  intro m
  induction m with
  | zero =>
    intro t n s ws k out q res hm hn hs hr
    have : t = [] := List.eq_nil_of_length_eq_zero (by omega)
    subst this
    have e : singW n out q [] = (out, q) := by cases n <;> rfl
    rw [e]
    rw [runW] at hr
    cases s with
    | ahead =>
      obtain ⟨rfl, rfl⟩ := hs
      simp only [finW, Ans.ok.injEq] at hr
      subst hr
      have e3 : finS (preW ws, false) = trimW (preW ws) := rfl
      rw [e3]
      unfold preW
      by_cases h : ws = []
      · rw [if_pos h, h]; rfl
      · rw [if_neg h]
        obtain ⟨a, b, h1, h2⟩ := join_last h
        rw [trimW_blank _ _ (by decide), h1, trimW_stop _ _ h2]
    | bare w =>
      obtain ⟨rfl, hw, rfl⟩ := hs
      simp only [finW, Ans.ok.injEq] at hr
      subst hr
      rw [joinW_snoc]
      have e2 : wrtW w = w := by unfold wrtW; rw [if_pos hw]
      obtain ⟨a, b, h1, h2⟩ := wrt_last w
      rw [e2] at h1 ⊢
      unfold finS
      rw [if_pos rfl]
      simp only
      rw [h1, ← List.append_assoc, trimW_stop _ _ h2]
    | closed =>
      obtain ⟨rfl, hw, rfl⟩ := hs
      simp only [finW, Ans.ok.injEq] at hr
      subst hr
      obtain ⟨a, b, h1, h2⟩ := join_last hw
      unfold finS
      rw [if_pos rfl]
      simp only
      rw [h1, trimW_stop _ _ h2]
    | quote o w => simp [finW] at hr
    | esc o w e => exact absurd hs id
    | high o w e => exact absurd hs id
    | low o w e d => exact absurd hs id
  | succ m ih =>
    intro t n s ws k out q res hm hn hs hr
    cases t with
    | nil => exact ih [] n s ws k out q res (by simp) hn hs hr
    | cons c t =>
      obtain ⟨n', rfl⟩ : ∃ n', n = n' + 1 := ⟨n - 1, by simp at hn; omega⟩
      simp only [List.length_cons] at hm hn
      cases s with
      | ahead =>
        obtain ⟨rfl, rfl⟩ := hs
        by_cases h32 : c.toNat = 32
        · rw [runW_cons (s' := .ahead) (ws' := ws) (by simp [stepW, h32])] at hr
          rw [sing_blank h32, if_neg]
          · exact ih t n' .ahead ws _ _ _ res (by omega) (by omega) ⟨rfl, rfl⟩ hr
          · rintro ⟨h1, h2⟩
            unfold preW at h1 h2
            split at h1
            · exact h1 rfl
            · rename_i hne
              rw [if_neg hne, last_snoc] at h2
              exact h2 (by decide)
        · by_cases h34 : c.toNat = 34
          · rw [runW_cons (s' := .quote k []) (ws' := ws) (by simp [stepW, h34])] at hr
            rw [sing_quote h34]
            refine ih t n' (.quote k []) ws _ _ _ res (by omega) (by omega) ⟨rfl, ?_⟩ hr
            rw [b_of h34]
            rfl
          · cases hb : bareN c.toNat with
            | true =>
              rw [runW_cons (s' := .bare [c]) (ws' := ws) (by simp only [stepW]; rw [if_neg h32, if_neg h34, if_pos hb])] at hr
              rw [sing_plain (by omega) (by simp) h34]
              exact ih t n' (.bare [c]) ws _ _ _ res (by omega) (by omega) ⟨rfl, by simp [isBareW, hb], rfl⟩ hr
            | false =>
              rw [runW] at hr
              simp [stepW, h32, h34, hb] at hr
      | bare w =>
        obtain ⟨rfl, hw, rfl⟩ := hs
        cases hb : bareN c.toNat with
        | true =>
          obtain ⟨n1, n2, n3⟩ := bare_no hb
          rw [runW_cons (s' := .bare (w ++ [c])) (ws' := ws) (by simp [stepW, hb])] at hr
          rw [sing_plain (by omega) (by simp) n2]
          refine ih t n' (.bare (w ++ [c])) ws _ _ _ res (by omega) (by omega) ⟨rfl, ?_, by simp⟩ hr
          obtain ⟨_, hall⟩ := bareW_all hw
          simp only [isBareW, decide_eq_true_eq]
          refine ⟨by simp, fun b hb2 => ?_⟩
          rcases List.mem_append.1 hb2 with h | h
          · exact hall b h
          · simp only [List.mem_cons, List.not_mem_nil, or_false] at h
            rw [h]; exact hb
        | false =>
          by_cases h32 : c.toNat = 32
          · rw [runW_cons (s' := .ahead) (ws' := ws ++ [w]) (by simp only [stepW]; rw [hb, if_neg (by simp), if_pos h32])] at hr
            have e2 : wrtW w = w := by unfold wrtW; rw [if_pos hw]
            obtain ⟨a, b, h1, h2⟩ := wrt_last w
            rw [e2] at h1
            rw [sing_blank h32, if_pos]
            · refine ih t n' .ahead (ws ++ [w]) _ _ _ res (by omega) (by omega) ⟨rfl, ?_⟩ hr
              rw [preW_snoc, joinW_snoc, e2, b_of h32]
              rfl
            · rw [h1, ← List.append_assoc, last_snoc]
              exact ⟨by simp, by simpa using h2⟩
          · rw [runW] at hr
            simp [stepW, h32, hb] at hr
      | closed =>
        obtain ⟨rfl, hw, rfl⟩ := hs
        by_cases h32 : c.toNat = 32
        · rw [runW_cons (s' := .ahead) (ws' := ws) (by simp [stepW, h32])] at hr
          obtain ⟨a, b, h1, h2⟩ := join_last hw
          rw [sing_blank h32, if_pos]
          · refine ih t n' .ahead ws _ _ _ res (by omega) (by omega) ⟨rfl, ?_⟩ hr
            unfold preW
            rw [if_neg hw, b_of h32]
            rfl
          · rw [h1, last_snoc]
            exact ⟨by simp, by simpa using h2⟩
        · rw [runW] at hr
          simp [stepW, h32] at hr
      | quote o w =>
        obtain ⟨rfl, rfl⟩ := hs
        by_cases h34 : c.toNat = 34
        · cases hw : isBareW w with
          | true => rw [runW] at hr; simp [stepW, h34, hw] at hr
          | false =>
            rw [runW_cons (s' := .closed) (ws' := ws ++ [w]) (by simp [stepW, h34, hw])] at hr
            rw [sing_quote h34]
            refine ih t n' .closed (ws ++ [w]) _ _ _ res (by omega) (by omega) ⟨rfl, by simp, ?_⟩ hr
            rw [joinW_snoc, b_of h34]
            unfold wrtW
            rw [hw, if_neg (by simp)]
            simp
        · by_cases h92 : c.toNat = 92
          · rw [runW_cons (s' := .esc o w k) (ws' := ws) (by simp [stepW, h92])] at hr
            cases t with
            | nil => simp [runW, finW] at hr
            | cons d t =>
              rw [sing_esc h92]
              simp only [List.length_cons] at hm hn
              by_cases h120 : d.toNat = 120
              · rw [runW_cons (s' := .high o w k) (ws' := ws) (by simp [stepW, h120])] at hr
                cases t with
                | nil => simp [runW, finW] at hr
                | cons x1 t =>
                  cases hx1 : hexN x1.toNat with
                  | none => rw [runW] at hr; simp [stepW, hx1] at hr
                  | some g =>
                    rw [runW_cons (s' := .low o w k g) (ws' := ws) (by simp [stepW, hx1])] at hr
                    cases t with
                    | nil => simp [runW, finW] at hr
                    | cons x2 t =>
                      cases hx2 : hexN x2.toNat with
                      | none => rw [runW] at hr; simp [stepW, hx2] at hr
                      | some f =>
                        have hg := hexN_lt hx1
                        have hf := hexN_lt hx2
                        by_cases hp : prnN (16 * g + f) = true
                        · rw [runW] at hr; simp [stepW, hx2, hp] at hr
                        · rw [runW_cons (s' := .quote o (w ++ [UInt8.ofNat (16 * g + f)])) (ws' := ws) (by simp only [stepW]; rw [hx2]; simp only; rw [if_neg hp])] at hr
                          simp only [List.length_cons] at hm hn
                          obtain ⟨n2, rfl⟩ : ∃ n2, n' = n2 + 1 + 1 := ⟨n' - 2, by omega⟩
                          have a1 : x1.toNat ≠ 92 ∧ x1.toNat ≠ 34 := by
                            unfold hexN at hx1
                            constructor <;> intro e <;> rw [e] at hx1 <;> simp at hx1
                          have a2 : x2.toNat ≠ 92 ∧ x2.toNat ≠ 34 := by
                            unfold hexN at hx2
                            constructor <;> intro e <;> rw [e] at hx2 <;> simp at hx2
                          rw [sing_plain (by simp) (by omega) a1.2, sing_plain (by simp) (by omega) a2.2]
                          refine ih t n2 (.quote o (w ++ [UInt8.ofNat (16 * g + f)])) ws _ _ _ res (by omega) (by omega) ⟨rfl, ?_⟩ hr
                          have eN := n_of (16 * g + f) (by omega)
                          have e5 : escB (UInt8.ofNat (16 * g + f)) = [92, 120, x1, x2] := by
                            unfold escB
                            rw [eN, if_neg hp, show (16 * g + f) / 16 = g by omega, show (16 * g + f) % 16 = f by omega, hexD_hexN hx1, hexD_hexN hx2]
                          rw [escW_snoc, e5, b_of h92, b_of h120]
                          simp
              · by_cases hq : d.toNat = 34 ∨ d.toNat = 92
                · rw [runW_cons (s' := .quote o (w ++ [d])) (ws' := ws) (by simp only [stepW]; rw [if_neg h120, if_pos hq])] at hr
                  refine ih t n' (.quote o (w ++ [d])) ws _ _ _ res (by omega) (by omega) ⟨rfl, ?_⟩ hr
                  have e5 : escB d = [92, d] := by
                    unfold escB
                    rw [if_pos (by simp only [prnN, decide_eq_true_eq]; omega), if_pos hq]
                  rw [escW_snoc, e5, b_of h92]
                  simp
                · rw [runW] at hr; simp [stepW, h120, hq] at hr
          · cases hp : prnN c.toNat with
            | true =>
              rw [runW_cons (s' := .quote o (w ++ [c])) (ws' := ws) (by simp [stepW, h34, h92, hp])] at hr
              rw [sing_plain (by simp) (by omega) h34]
              refine ih t n' (.quote o (w ++ [c])) ws _ _ _ res (by omega) (by omega) ⟨rfl, ?_⟩ hr
              have e5 : escB c = [c] := by
                unfold escB
                rw [if_pos hp, if_neg (by omega)]
              rw [escW_snoc, e5]
              simp
            | false => rw [runW] at hr; simp [stepW, h34, h92, hp] at hr
      | esc o w e => exact absurd hs id
      | high o w e => exact absurd hs id
      | low o w e d => exact absurd hs id
theorem single_join {l : List UInt8} {res : Ws} (h : runW .ahead [] 0 l = .ok res) : singleW l = joinW res := by
  have := sing_run l.length l l.length .ahead [] 0 [] false res (Nat.le_refl _) (Nat.le_refl _) ⟨rfl, rfl⟩ h
  exact this
end Go.Proofs.Ytgmjjopfpenceaa
