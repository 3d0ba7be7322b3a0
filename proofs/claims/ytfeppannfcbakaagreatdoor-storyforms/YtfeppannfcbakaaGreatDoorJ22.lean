import Derived.Test.YtfeppannfcbakaaGreatDoorEv22
namespace Go.Proofs.YtfeppannfcbakaaGreatDoor
open Go.RowKit
set_option linter.unusedVariables false
set_option maxRecDepth 100000

def St.wl : St → Nat
  | .bare w => w.length
  | .quote _ w => w.length
  | .esc _ w _ => w.length
  | .high _ w _ => w.length
  | .low _ w _ _ => w.length
  | _ => 0
theorem ws_snoc {ws : Ws} {w : List UInt8} {n : Nat} (h : ∀ y ∈ ws, y.length ≤ n) (hw : w.length ≤ n) : ∀ y ∈ ws ++ [w], y.length ≤ n := by
  intro y hy
  rcases List.mem_append.1 hy with hy | hy
  · exact h y hy
  · have : y = w := by simpa using hy
    subst this
    exact hw
theorem step_wl {s s' : St} {ws ws' : Ws} {k : Nat} {b : UInt8} (hs : s.wl ≤ k) (hw : ∀ y ∈ ws, y.length ≤ k) (h : stepW s ws k b = .go s' ws') : s'.wl ≤ k + 1 ∧ ∀ y ∈ ws', y.length ≤ k + 1 := by
  have hw1 : ∀ y ∈ ws, y.length ≤ k + 1 := fun y hy => Nat.le_succ_of_le (hw y hy)
  cases s
  all_goals
    simp only [stepW] at h
    simp only [St.wl] at hs
    repeat' split at h
  all_goals first
    | (cases h; done)
    | (simp only [Out.go.injEq] at h
       obtain ⟨rfl, rfl⟩ := h
       refine ⟨by simp only [St.wl, List.length_append, List.length_cons, List.length_nil]; omega, ?_⟩
       first
       | exact hw1
       | exact ws_snoc hw1 (by omega))
theorem fin_wl {s : St} {ws : Ws} {k : Nat} (hs : s.wl ≤ k) (hw : ∀ y ∈ ws, y.length ≤ k) : ∀ y ∈ (finW s ws k).ws, y.length ≤ k := by
  cases s <;> simp only [finW, Ans.ws]
  all_goals first
    | exact hw
    | exact ws_snoc hw hs
    | simp
theorem run_wl : ∀ {t : List UInt8} {s : St} {ws : Ws} {k : Nat}, s.wl ≤ k → (∀ y ∈ ws, y.length ≤ k) → ∀ y ∈ (runW s ws k t).ws, y.length ≤ k + t.length
  | [], s, ws, k, hs, hw => fin_wl hs hw
  | b :: t, s, ws, k, hs, hw => by
    rw [runW]
    cases h : stepW s ws k b with
    | bad j => simp [Ans.ws]
    | go s' ws' =>
      obtain ⟨h1, h2⟩ := step_wl hs hw h
      intro y hy
      have := run_wl (t := t) h1 h2 y hy
      simp only [List.length_cons]
      omega
theorem split_wl {l : List UInt8} : ∀ y ∈ (splitW l).ws, y.length ≤ 8192 := by
  unfold splitW
  split
  · simp [Ans.ws]
  · intro y hy
    have := run_wl (k := 0) (by simp [St.wl]) (by simp) y hy
    omega
theorem split_join {ws : Ws} (h : szW ws ≤ 8192) : splitW (joinW ws) = .ok ws := by
  unfold splitW
  rw [if_neg (by have := joinW_le ws; omega), run_join]
theorem run_err {t : List UInt8} : ∀ {s : St} {ws : Ws} {k : Nat}, (runW s ws k t).err = 0 → ∃ r, runW s ws k t = .ok r := by
  intro s ws k h
  cases e : runW s ws k t with
  | ok r => exact ⟨r, rfl⟩
  | byte k => rw [e] at h; simp [Ans.err] at h
  | stop n => rw [e] at h; simp [Ans.err] at h
  | long => rw [e] at h; simp [Ans.err] at h
theorem wdT_len (C : List Value) (items : Ws) (data : List UInt8) : ∀ t : Th, (wdT C items data t).length ≤ 100
  | .look o => by simp [wdT, lookL, wd1]
  | .sht o => by simp [wdT, shtL, wd1]
  | .int o => by simp [wdT, wd1]
  | .cod o => by simp [wdT, wd1]
  | .fre o => by simp [wdT, wd1]
  | .sta o => by simp [wdT, wd1]
  | .dat o => by simp [wdT, wd1]
  | .op o => Nat.le_trans (opA_len _ _ _ _ _) (by decide)
  | .res o => Nat.le_trans (resA_len _ _ _) (by decide)
theorem kd_len (k : Nat) : (kdN.getD k []).length ≤ 10 := by
  by_cases h : k < 12
  · have key : ∀ a : Fin 12, (kdN.getD a.val []).length ≤ 10 := by decide
    exact key ⟨k, h⟩
  · rw [List.getD, List.getElem?_eq_none (by simp [kdN]; omega)]
    simp
theorem sz_words {e : Ev} {items : Ws} {data : List UInt8} (hF : e.inForm = true) (hX : ersL (er1 e.cells items) (kindT e.k) = 0) (hR : e.Rg) (hd : data.length = e.dik) : szW (e.words items data) ≤ 8000 := by
  have h1 := szL (fit_of hF hX hR hd)
  have h2 := bdL e.k
  have h3 := wrtW_le (kdN.getD e.k.toNat [])
  have h4 := kd_len e.k.toNat
  rw [words_sub]
  simp only [szW, List.map_cons, List.sum_cons] at h1 ⊢
  omega
theorem err_zero {e : Ev} {items : Ws} (h : e.err items = 0) : e.inForm = true ∧ ersL (er1 e.cells items) (kindT e.k) = 0 := by
  unfold Ev.err at h
  split at h
  · simp at h
  · rename_i h1
    exact ⟨by simpa using h1, h⟩
/-- THE PURE LAW: what is written is read back. -/
theorem re_back {e : Ev} {items : Ws} {data : List UInt8} (h : e.err items = 0) (hR : e.Rg) (hd : data.length = e.dik) :
    rlErr (e.line items data) = 0 ∧ (e.line items data).length ≤ 8192 ∧ (splitW (e.line items data)).ws = kdN.getD e.k.toNat [] :: ((kindT e.k).flatMap sub).flatMap (wd1 e.cells items data) ∧ evW (kdN.getD e.k.toNat []) = some e.k.toNat ∧ ((e.k.toNat : Nat) : Int) = e.k
    ∧ (rdsL ((kindT e.k).flatMap sub) (((kindT e.k).flatMap sub).flatMap (wd1 e.cells items data))).2.2 = ((kindT e.k).flatMap sub).map (ct1 e.cells items data) := by
  obtain ⟨hF, hX⟩ := err_zero h
  have hk := inForm_k hF
  have hs := sz_words hF hX hR hd
  have hl : e.line items data = joinW (e.words items data) := by unfold Ev.line; rw [if_neg (by simp [h])]
  have hsp := split_join (ws := e.words items data) (by omega)
  have hkk : ((e.k.toNat : Nat) : Int) = e.k := Int.toNat_of_nonneg (by omega)
  have hrd := rdsL_back (b := []) (fit_of hF hX hR hd)
  rw [List.append_nil] at hrd
  have hev := ev_back hk.1 hk.2
  rw [hl, hsp]
  refine ⟨?_, by have := joinW_le (e.words items data); omega, by rw [words_sub]; rfl, hev, hkk, by rw [hrd]⟩
  have h1 : rlErr (joinW (e.words items data)) = reErr (e.words items data) := by
    unfold rlErr
    rw [if_neg (by rw [hsp]; simp [Ans.err]), hsp]
    rfl
  rw [h1, words_sub]
  simp only [reErr, hev, hkk, hrd]
  simp
theorem lenJ_szW {ws : Ws} {n : Nat} (h : ∀ x ∈ ws, x.length ≤ n) : lenJ ws ≤ ws.length * (4 * n + 16) := by
  induction ws with
  | nil => simp [lenJ]
  | cons x r ih =>
    have h1 := ih (fun y hy => h y (List.mem_cons_of_mem _ hy))
    have h3 := h x (List.mem_cons_self)
    simp only [lenJ, List.map_cons, List.sum_cons, List.length_cons] at h1 ⊢
    rw [Nat.add_mul]
    omega
theorem wd1_w {C : List Value} {items : Ws} {data : List UInt8} {t : Th} (h : Fit C items data t) : ∀ x ∈ wd1 C items data t, x.length ≤ 5000 := by
  intro x hx
  cases t with
  | int o =>
    have := itoa_len h.1 h.2
    simp only [wd1, List.mem_cons, List.not_mem_nil, or_false] at hx
    subst hx
    omega
  | cod o =>
    have := itoa_len h.1 h.2
    simp only [wd1, List.mem_cons, List.not_mem_nil, or_false] at hx
    subst hx
    omega
  | sta o =>
    have hk : ∀ k : Int, 1 ≤ k → k ≤ 3 → (stN.getD k.toNat []).length ≤ 10 := fun k h1 h3 => by
      obtain rfl | rfl | rfl : k = 1 ∨ k = 2 ∨ k = 3 := by omega
      all_goals decide
    have := hk _ h.1 h.2
    simp only [wd1, List.mem_cons, List.not_mem_nil, or_false] at hx
    subst hx
    omega
  | fre o =>
    simp only [wd1, List.mem_cons, List.not_mem_nil, or_false] at hx
    subst hx
    cases boolV C o <;> decide
  | dat o =>
    have h' : data.length ≤ 2304 := h
    simp only [wd1, List.mem_cons, List.not_mem_nil, or_false] at hx
    subst hx
    rw [hexW_len]
    omega
  | op o => exact Nat.le_trans (opA_w64 hx) (by decide)
  | res o => exact Nat.le_trans (resA_w64 hx) (by decide)
  | look o => exact absurd h (by simp [Fit])
  | sht o => exact absurd h (by simp [Fit])
theorem wdF_len (C : List Value) (items : Ws) (data : List UInt8) (l : List Th) (hl : l.length ≤ 100) : (l.flatMap (wdT C items data)).length ≤ 10000 := by
  have h : ∀ l : List Th, (l.flatMap (wdT C items data)).length ≤ 100 * l.length := by
    intro l
    induction l with
    | nil => simp
    | cons t r ih =>
      have := wdT_len C items data t
      simp only [List.flatMap_cons, List.length_append, List.length_cons]
      omega
  have := h l
  omega
theorem lenJ_words {e : Ev} {items : Ws} {data : List UInt8} (h : e.err items = 0) (hR : e.Rg) (hd : data.length = e.dik) : lenJ (e.words items data) ≤ 100000000000000 := by
  obtain ⟨hF, hX⟩ := err_zero h
  have hx : ∀ x ∈ e.words items data, x.length ≤ 5000 := by
    intro x hx
    rw [words_sub] at hx
    rcases List.mem_cons.1 hx with rfl | hx
    · have := kd_len e.k.toNat
      omega
    · obtain ⟨t, ht, hxt⟩ := List.mem_flatMap.1 hx
      exact wd1_w (fit_of hF hX hR hd t ht) x hxt
  have h1 := lenJ_szW hx
  have h2 : (e.words items data).length ≤ 10001 := by
    have : (kindT e.k).length ≤ 100 := by
      unfold kindT
      repeat' split
      all_goals decide
    have := wdF_len e.cells items data (kindT e.k) this
    simp only [Ev.words, List.length_cons]
    omega
  have h3 := Nat.mul_le_mul_right (4 * 5000 + 16) h2
  omega
end Go.Proofs.YtfeppannfcbakaaGreatDoor

namespace Go.Proofs.YtfeppannfcbakaaGreatDoor
open Go.RowKit
set_option linter.unusedVariables false
set_option maxRecDepth 100000

theorem rl_zero {l : List UInt8} (h : rlErr l = 0) : (splitW l).err = 0 ∧ reErr (splitW l).ws = 0 := by
  unfold rlErr at h
  split at h
  · rename_i h1
    exact absurd h (by omega)
  · rename_i h1
    exact ⟨by simpa using h1, h⟩
theorem re_zero {x : List UInt8} {r : Ws} {k : Nat} (h : reErr (x :: r) = 0) (hx : evW x = some k) : (rdsL ((kindT (k : Int)).flatMap sub) r).1 = 0 ∧ r.length ≤ (rdsL ((kindT (k : Int)).flatMap sub) r).2.1 := by
  simp only [reErr, hx] at h
  split at h
  · rename_i h1
    exact absurd h h1
  · rename_i h1
    split at h
    · simp at h
    · exact ⟨by simpa using h1, by omega⟩
set_option maxHeartbeats 3200000 in
/-- What an event in form needs to be written. -/
theorem tp_of {e : Ev} {items : Ws} {data : List UInt8} {cs : List Comp} (hF : e.inForm = true) (hR : e.Rg) (hd : data.length = e.dik) (hil : items.length ≤ 140737488355328) (hI : ∀ W, All cs W → Rt W (.slice e.ria e.rik e.ric) items) (hD : ∀ W, All cs W → BRd W (.slice e.dia e.dik e.dic) data) : ∀ t ∈ kindT e.k, TpWT e.cells items data cs t := by
  have hk := inForm_k hF
  have hO := (left_empty hF).1
  obtain hk | hk | hk | hk | hk | hk | hk | hk | hk | hk | hk : e.k = 1 ∨ e.k = 2 ∨ e.k = 3 ∨ e.k = 4 ∨ e.k = 5 ∨ e.k = 6 ∨ e.k = 7 ∨ e.k = 8 ∨ e.k = 9 ∨ e.k = 10 ∨ e.k = 11 := by omega
  · have hK : kindT e.k = [.int 1, .cod 5] := by rw [hk]; rfl
    rw [hK] at hO ⊢
    simp [okL, okT, okF, ok1, sub, clr, clrF, clr1, valI, Ev.cells] at hO
    intro t ht
    simp only [List.mem_cons, List.not_mem_nil, or_false] at ht
    rcases ht with rfl | rfl
    · exact ⟨e.a, rfl, by omega, hR.a⟩
    · exact ⟨e.cd, rfl, by omega, hR.cd⟩
  · have hK : kindT e.k = [.int 1, .int 2, .op 7] := by rw [hk]; rfl
    rw [hK] at hO ⊢
    simp [okL, okT, okF, ok1, sub, clr, clrF, clr1, valI, Ev.cells] at hO
    intro t ht
    simp only [List.mem_cons, List.not_mem_nil, or_false] at ht
    rcases ht with rfl | rfl | rfl
    · exact ⟨e.a, rfl, by omega, hR.a⟩
    · exact ⟨e.nb, rfl, by omega, hR.nb⟩
    · exact ⟨_, _, _, _, _, rfl, rfl, rfl, rfl, rfl⟩
  · have hK : kindT e.k = [.int 1, .int 2, .int 4, .op 7] := by rw [hk]; rfl
    rw [hK] at hO ⊢
    simp [okL, okT, okF, ok1, sub, clr, clrF, clr1, valI, Ev.cells] at hO
    intro t ht
    simp only [List.mem_cons, List.not_mem_nil, or_false] at ht
    rcases ht with rfl | rfl | rfl | rfl
    · exact ⟨e.a, rfl, by omega, hR.a⟩
    · exact ⟨e.nb, rfl, by omega, hR.nb⟩
    · exact ⟨e.wh, rfl, by omega, hR.wh⟩
    · exact ⟨_, _, _, _, _, rfl, rfl, rfl, rfl, rfl⟩
  · have hK : kindT e.k = [.int 1, .int 2, .int 3, .res 19] := by rw [hk]; rfl
    rw [hK] at hO ⊢
    simp [okL, okT, okF, ok1, sub, clr, clrF, clr1, valI, Ev.cells] at hO
    intro t ht
    simp only [List.mem_cons, List.not_mem_nil, or_false] at ht
    rcases ht with rfl | rfl | rfl | rfl
    · exact ⟨e.a, rfl, by omega, hR.a⟩
    · exact ⟨e.nb, rfl, by omega, hR.nb⟩
    · exact ⟨e.nm, rfl, by omega, hR.nm⟩
    · exact ⟨hil, e.rc, e.rn, e.ria, e.rik, e.ric, rfl, rfl, rfl, hI⟩
  · have hK : kindT e.k = [.int 1, .int 2, .int 3, .int 4, .res 19] := by rw [hk]; rfl
    rw [hK] at hO ⊢
    simp [okL, okT, okF, ok1, sub, clr, clrF, clr1, valI, Ev.cells] at hO
    intro t ht
    simp only [List.mem_cons, List.not_mem_nil, or_false] at ht
    rcases ht with rfl | rfl | rfl | rfl | rfl
    · exact ⟨e.a, rfl, by omega, hR.a⟩
    · exact ⟨e.nb, rfl, by omega, hR.nb⟩
    · exact ⟨e.nm, rfl, by omega, hR.nm⟩
    · exact ⟨e.wh, rfl, by omega, hR.wh⟩
    · exact ⟨hil, e.rc, e.rn, e.ria, e.rik, e.ric, rfl, rfl, rfl, hI⟩
  · have hK : kindT e.k = [.int 1, .int 3, .fre 6, .int 12, .int 13, .op 14, .res 19] := by rw [hk]; rfl
    rw [hK] at hO ⊢
    simp [okL, okT, okF, ok1, sub, clr, clrF, clr1, valI, Ev.cells] at hO
    intro t ht
    simp only [List.mem_cons, List.not_mem_nil, or_false] at ht
    rcases ht with rfl | rfl | rfl | rfl | rfl | rfl | rfl
    · exact ⟨e.a, rfl, by omega, hR.a⟩
    · exact ⟨e.nm, rfl, by omega, hR.nm⟩
    · exact ⟨e.fr, rfl⟩
    · exact ⟨e.ec, rfl, by omega, hR.ec⟩
    · exact ⟨e.en, rfl, by omega, hR.en⟩
    · exact ⟨_, _, _, _, _, rfl, rfl, rfl, rfl, rfl⟩
    · exact ⟨hil, e.rc, e.rn, e.ria, e.rik, e.ric, rfl, rfl, rfl, hI⟩
  · have hK : kindT e.k = [.int 1, .look 22] := by rw [hk]; rfl
    rw [hK] at hO ⊢
    simp [okL, okT, okF, ok1, sub, lookL, clr, clrF, clr1, valI, Ev.cells] at hO
    intro t ht
    simp only [List.mem_cons, List.not_mem_nil, or_false] at ht
    rcases ht with rfl | rfl
    · exact ⟨e.a, rfl, by omega, hR.a⟩
    · intro x hx
      simp only [lookL, List.mem_cons, List.not_mem_nil, or_false] at hx
      rcases hx with rfl | rfl | rfl | rfl | rfl | rfl | rfl | rfl
      · exact ⟨e.l0, rfl, by omega, hR.l0⟩
      · exact ⟨e.l1.toNat, by rw [Int.toNat_of_nonneg (by omega)]; rfl, by omega⟩
      · exact ⟨e.l2, rfl, by omega, hR.l2⟩
      · exact ⟨e.l3, rfl, by omega, hR.l3⟩
      · exact ⟨e.l4, rfl, by omega, hR.l4⟩
      · exact ⟨e.l5, rfl, by omega, hR.l5⟩
      · exact ⟨e.l6, rfl, by omega, hR.l6⟩
      · exact ⟨e.l7, rfl, by omega, hR.l7⟩
  · have hK : kindT e.k = [.int 1] := by rw [hk]; rfl
    rw [hK] at hO ⊢
    simp [okL, okT, okF, ok1, sub, valI, Ev.cells] at hO
    intro t ht
    simp only [List.mem_cons, List.not_mem_nil, or_false] at ht
    subst ht
    · exact ⟨e.a, rfl, by omega, hR.a⟩
  · have hK : kindT e.k = [.int 1] := by rw [hk]; rfl
    rw [hK] at hO ⊢
    simp [okL, okT, okF, ok1, sub, valI, Ev.cells] at hO
    intro t ht
    simp only [List.mem_cons, List.not_mem_nil, or_false] at ht
    subst ht
    · exact ⟨e.a, rfl, by omega, hR.a⟩
  · have hK : kindT e.k = [.int 1, .look 22] := by rw [hk]; rfl
    rw [hK] at hO ⊢
    simp [okL, okT, okF, ok1, sub, lookL, clr, clrF, clr1, valI, Ev.cells] at hO
    intro t ht
    simp only [List.mem_cons, List.not_mem_nil, or_false] at ht
    rcases ht with rfl | rfl
    · exact ⟨e.a, rfl, by omega, hR.a⟩
    · intro x hx
      simp only [lookL, List.mem_cons, List.not_mem_nil, or_false] at hx
      rcases hx with rfl | rfl | rfl | rfl | rfl | rfl | rfl | rfl
      · exact ⟨e.l0, rfl, by omega, hR.l0⟩
      · exact ⟨e.l1.toNat, by rw [Int.toNat_of_nonneg (by omega)]; rfl, by omega⟩
      · exact ⟨e.l2, rfl, by omega, hR.l2⟩
      · exact ⟨e.l3, rfl, by omega, hR.l3⟩
      · exact ⟨e.l4, rfl, by omega, hR.l4⟩
      · exact ⟨e.l5, rfl, by omega, hR.l5⟩
      · exact ⟨e.l6, rfl, by omega, hR.l6⟩
      · exact ⟨e.l7, rfl, by omega, hR.l7⟩
  · have hK : kindT e.k = [.int 1, .sht 30] := by rw [hk]; rfl
    rw [hK] at hO ⊢
    simp [okL, okT, okF, ok1, sub, shtL, clr, clrF, clr1, valI, lenS, Ev.cells] at hO
    intro t ht
    simp only [List.mem_cons, List.not_mem_nil, or_false] at ht
    rcases ht with rfl | rfl
    · exact ⟨e.a, rfl, by omega, hR.a⟩
    · intro x hx
      simp only [shtL, List.mem_cons, List.not_mem_nil, or_false] at hx
      rcases hx with rfl | rfl | rfl
      · exact ⟨e.sn, rfl, by omega, hR.sn⟩
      · exact ⟨e.sa, rfl, by omega, hR.sa⟩
      · exact ⟨by omega, e.dia, e.dik, e.dic, rfl, hD⟩
end Go.Proofs.YtfeppannfcbakaaGreatDoor
