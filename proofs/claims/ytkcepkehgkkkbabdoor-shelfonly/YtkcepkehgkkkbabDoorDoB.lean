import Derived.Test.YtkcepkehgkkkbabDoorDoA
namespace Go.Proofs.YtkcepkehgkkkbabDoor
open Go.RowKit
set_option linter.unusedVariables false

theorem ix1 (W : World) : (Instr.index 71 deedsV (.int .i64 1)).run Tryd.prog W = .ok (.agg #[fnV 35, .bool false]) W := by kernel_rfl
theorem ix2 (W : World) : (Instr.index 71 deedsV (.int .i64 2)).run Tryd.prog W = .ok (.agg #[fnV 36, .bool true]) W := by kernel_rfl
theorem ix3 (W : World) : (Instr.index 71 deedsV (.int .i64 3)).run Tryd.prog W = .ok (.agg #[fnV 37, .bool true]) W := by kernel_rfl
theorem ix4 (W : World) : (Instr.index 71 deedsV (.int .i64 4)).run Tryd.prog W = .ok (.agg #[fnV 38, .bool true]) W := by kernel_rfl
theorem ix5 (W : World) : (Instr.index 71 deedsV (.int .i64 5)).run Tryd.prog W = .ok (.agg #[fnV 39, .bool true]) W := by kernel_rfl
theorem ix6 (W : World) : (Instr.index 71 deedsV (.int .i64 6)).run Tryd.prog W = .ok (.agg #[fnV 40, .bool true]) W := by kernel_rfl
theorem ix7 (W : World) : (Instr.index 71 deedsV (.int .i64 7)).run Tryd.prog W = .ok (.agg #[fnV 41, .bool true]) W := by kernel_rfl
theorem ix8 (W : World) : (Instr.index 71 deedsV (.int .i64 8)).run Tryd.prog W = .ok (.agg #[fnV 42, .bool false]) W := by kernel_rfl

theorem sh_mem (P : Nat) (S : St) : blkC P (flat (stV S)) 56 ∈ shL P S := List.mem_cons_self

/-- An op that may be is done. -/
theorem done_any {N P : Nat} {S : St} (hS : OkS N S) (hN : N < 1152921504606846976) {k : Int} {nm tx : ByteArray} {n m : Int} (hk : chkA k nm.size tx.size n m = 0) {cs : List Comp} {w : World} (h : All (shL P S ++ cs) w) :
    Calls Tryd.prog 19 #[.pointer (some ⟨P, 0, none⟩), opV k nm tx n m] w (DOut P S nm tx n m k cs) := by
  have h8 : (stV S).length = 8 := by rw [stV_len]; exact hS.len
  obtain ⟨c1, c2, c3, c4, c5⟩ := chk_small hk
  obtain rfl | rfl | rfl | rfl | rfl | rfl | rfl | rfl : k = 1 ∨ k = 2 ∨ k = 3 ∨ k = 4 ∨ k = 5 ∨ k = 6 ∨ k = 7 ∨ k = 8 := by omega
  · have cc := chk_1 hk
    exact done_free (sh_mem P S) h8 nm tx n m (Or.inl rfl) ix1 (G := GD P S nm tx n m 1) (fun cs' w' h' => deed_make hS 1 cs' w' h' rfl (by omega)) h
  · have cc := chk_2 hk
    rcases find_cases hS nm (by omega) with ⟨hf, _⟩ | ⟨i, q, hf, hs, hn⟩
    · refine (done_none (sh_mem P S) h8 nm tx n m ix2 hf h).mono ?_
      rintro e w' ⟨rfl, A⟩
      exact DOut.nil (.none 2 (by omega) hf) A
    · exact done_needs (sh_mem P S) h8 nm tx n m (by simp) ix2 (by rw [hf]; omega) (G := GD P S nm tx n m 2) (fun cs' w' h' => deed_drop hS hf hs hn cs' w' h') h
  · have cc := chk_3 hk
    rcases find_cases hS nm (by omega) with ⟨hf, _⟩ | ⟨i, q, hf, hs, hn⟩
    · refine (done_none (sh_mem P S) h8 nm tx n m ix3 hf h).mono ?_
      rintro e w' ⟨rfl, A⟩
      exact DOut.nil (.none 3 (by omega) hf) A
    · exact done_needs (sh_mem P S) h8 nm tx n m (by simp) ix3 (by rw [hf]; omega) (G := GD P S nm tx n m 3) (fun cs' w' h' => deed_push hS hf hs hn cs' w' h') h
  · have cc := chk_4 hk
    rcases find_cases hS nm (by omega) with ⟨hf, _⟩ | ⟨i, q, hf, hs, hn⟩
    · refine (done_none (sh_mem P S) h8 nm tx n m ix4 hf h).mono ?_
      rintro e w' ⟨rfl, A⟩
      exact DOut.nil (.none 4 (by omega) hf) A
    · exact done_needs (sh_mem P S) h8 nm tx n m (by simp) ix4 (by rw [hf]; omega) (G := GD P S nm tx n m 4) (fun cs' w' h' => deed_trim hS hN hf hs hn (by omega) (by omega) cs' w' h') h
  · have cc := chk_5 hk
    rcases find_cases hS nm (by omega) with ⟨hf, _⟩ | ⟨i, q, hf, hs, hn⟩
    · refine (done_none (sh_mem P S) h8 nm tx n m ix5 hf h).mono ?_
      rintro e w' ⟨rfl, A⟩
      exact DOut.nil (.none 5 (by omega) hf) A
    · exact done_needs (sh_mem P S) h8 nm tx n m (by simp) ix5 (by rw [hf]; omega) (G := GD P S nm tx n m 5) (fun cs' w' h' => deed_take hS hN hf hs hn (by omega) cs' w' h') h
  · have cc := chk_6 hk
    rcases find_cases hS nm (by omega) with ⟨hf, _⟩ | ⟨i, q, hf, hs, hn⟩
    · refine (done_none (sh_mem P S) h8 nm tx n m ix6 hf h).mono ?_
      rintro e w' ⟨rfl, A⟩
      exact DOut.nil (.none 6 (by omega) hf) A
    · exact done_needs (sh_mem P S) h8 nm tx n m (by simp) ix6 (by rw [hf]; omega) (G := GD P S nm tx n m 6) (fun cs' w' h' => deed_read hS hf hs hn (by omega) (by omega) (by omega) (by omega) cs' w' h') h
  · have cc := chk_7 hk
    rcases find_cases hS nm (by omega) with ⟨hf, _⟩ | ⟨i, q, hf, hs, hn⟩
    · refine (done_none (sh_mem P S) h8 nm tx n m ix7 hf h).mono ?_
      rintro e w' ⟨rfl, A⟩
      exact DOut.nil (.none 7 (by omega) hf) A
    · exact done_needs (sh_mem P S) h8 nm tx n m (by simp) ix7 (by rw [hf]; omega) (G := GD P S nm tx n m 7) (fun cs' w' h' => deed_count hS hf hs hn cs' w' h') h
  · exact done_free (sh_mem P S) h8 nm tx n m (Or.inr rfl) ix8 (G := GD P S nm tx n m 8) (fun cs' w' h' => deed_list hS _ cs' w' h') h

/-- The shelf stays as it should. -/
theorem deed_ok {N : Nat} {S S' : St} (hS : OkS N S) (hT : ∀ (i : Nat) (q : Qs), S[i]? = some (some q) → Maps.Tidy q.D) {k : Int} {nm tx : ByteArray} {n m c x j : Int} {items : List ByteArray} (hk : chkA k nm.size tx.size n m = 0) (h : Deed S nm tx n m k S' c x items j) : OkS (N + 1) S' := by
  have up : OkS (N + 1) S := ⟨hS.len, fun i q hq => by
    have O := hS.each i q hq
    exact ⟨O.nm0, O.nm16, O.len, O.small, O.fin, O.gs, O.gk, Nat.le_succ_of_le O.cn⟩, hS.one⟩
  -- one slot is turned, its name stays
  have turn : ∀ (i : Nat) (q q' : Qs), S[i]? = some (some q) → q'.nm = q.nm → OkQ (N + 1) q' → OkS (N + 1) (S.set i (some q')) := by
    intro i q q' hq hnm hO
    have hil : i < S.length := (List.getElem?_eq_some_iff.1 hq).1
    refine ⟨by rw [List.length_set]; exact hS.len, fun a p hp => ?_, fun a b p p' hp hp' he => ?_⟩
    · rw [List.getElem?_set] at hp
      split at hp
      · (try rw [if_pos hil] at hp)
        simp only [Option.some.injEq] at hp
        subst hp
        exact hO
      · exact up.each a p hp
    · rw [List.getElem?_set] at hp hp'
      split at hp <;> split at hp'
      · omega
      · (try rw [if_pos hil] at hp)
        simp only [Option.some.injEq] at hp
        subst hp
        rename_i h1 _
        rw [← h1]
        exact hS.one i b q p' hq hp' (by rw [← hnm]; exact he)
      · (try rw [if_pos hil] at hp')
        simp only [Option.some.injEq] at hp'
        subst hp'
        rename_i _ h1
        rw [← h1]
        exact hS.one a i p q hp hq (by rw [he, hnm])
      · exact hS.one a b p p' hp hp' he
  cases h with
  | none _ _ => exact up
  | there _ => exact up
  | full _ _ => exact up
  | make f b h hf hs =>
    have cc := chk_1 hk
    have hfl : f < S.length := (List.getElem?_eq_some_iff.1 hs).1
    have hno : ∀ (i : Nat) (q : Qs), S[i]? = some (some q) → q.nm ≠ nm := by
      rcases find_cases hS nm (by omega) with ⟨_, h2⟩ | ⟨i, q, h2, _⟩
      · exact h2
      · rw [h] at h2; omega
    refine ⟨by rw [List.length_set]; exact hS.len, fun a p hp => ?_, fun a b' p p' hp hp' he => ?_⟩
    · rw [List.getElem?_set] at hp
      split at hp
      · (try rw [if_pos hfl] at hp)
        simp only [Option.some.injEq] at hp
        subst hp
        refine ⟨by simp only; omega, by simp only; omega, by simp, by simp, by simp, by simp [Maps.size], fun x hx => ?_, by simp⟩
        simp [Maps.has] at hx
      · exact up.each a p hp
    · rw [List.getElem?_set] at hp hp'
      split at hp <;> split at hp'
      · omega
      · (try rw [if_pos hfl] at hp)
        simp only [Option.some.injEq] at hp
        subst hp
        exact absurd he.symm (hno b' p' hp')
      · (try rw [if_pos hfl] at hp')
        simp only [Option.some.injEq] at hp'
        subst hp'
        exact absurd he (hno a p hp)
      · exact hS.one a b' p p' hp hp' he
  | drop i q h hs hn =>
    refine ⟨by rw [List.length_set]; exact hS.len, fun a p hp => ?_, fun a b' p p' hp hp' he => ?_⟩
    · rw [List.getElem?_set] at hp
      split at hp
      · split at hp <;> simp at hp
      · exact up.each a p hp
    · rw [List.getElem?_set] at hp hp'
      split at hp
      · split at hp <;> simp at hp
      · split at hp'
        · split at hp' <;> simp at hp'
        · exact hS.one a b' p p' hp hp' he
  | pushFull _ _ _ _ _ _ => exact up
  | push i q iv' h hs hn hl hf =>
    have cc := chk_3 hk
    have O := up.each i q hs
    refine turn i q _ hs rfl ⟨O.nm0, O.nm16, ?_, ?_, ?_, O.gs, ?_, O.cn⟩
    · simp only [List.length_append, List.length_singleton]; omega
    · intro t ht
      rcases List.mem_append.1 ht with ht | ht
      · exact O.small t ht
      · simp at ht; subst ht; omega
    · simp only [List.length_append, List.length_singleton]; omega
    · intro y hy
      obtain ⟨g1, g2, c', g3, g4, g5⟩ := O.gk y hy
      exact ⟨g1, g2, c', g3, g4, by simp only [List.length_append, List.length_singleton]; omega⟩
  | trimNone _ _ _ _ _ _ => exact up
  | trim i q iv' D' d h hs hn hd h0 hl ht =>
    have O := up.each i q hs
    have o2 := O.fin
    refine turn i q _ hs rfl ⟨O.nm0, O.nm16, ?_, ?_, ?_, by rw [ht.size]; exact O.gs, ?_, O.cn⟩
    · have := O.len; simp only [List.length_drop]; omega
    · intro t htm
      exact O.small t (List.mem_of_mem_drop htm)
    · simp only [List.length_drop]; omega
    · intro y hy
      rw [ht.has] at hy
      obtain ⟨g1, g2, c', g3, g4, g5⟩ := O.gk y hy
      have hv := ht.val _ hy
      rw [if_neg (by simp)] at hv
      refine ⟨g1, g2, max c' (q.first + d), by rw [hv, g3]; omega, by simp only; omega, ?_⟩
      simp only [List.length_drop]
      omega
  | takeFull _ _ _ _ _ _ _ => exact up
  | takeEmpty _ _ _ _ _ _ => exact up
  | take i q d item h hs hn hd hh =>
    have cc := chk_5 hk
    have O := up.each i q hs
    have o := hS.each i q hs
    have hdl : d < q.items.length := (List.getElem?_eq_some_iff.1 hd).1
    have ht := hT i q hs
    have hkl : WideAt.IsKeyLit (.string tx.data.toList) := lawS.key (WideMaps.keyOf_string_mk Tryd.underlying9 (by unfold maxLen; omega))
    have hlen : tx.data.toList.length = tx.size := str_len tx
    refine turn i q _ hs rfl ⟨O.nm0, O.nm16, O.len, O.small, O.fin, ?_, ?_, by have := o.cn; simp only; omega⟩
    · simp only
      rw [Maps.size_put ht]
      have g4 := O.gs
      rcases hh with ⟨h1, _⟩ | ⟨h1, h2, _⟩
      · rw [if_pos h1]; exact g4
      · rw [if_neg (by rw [h1]; simp)]; omega
    · intro y hy
      simp only at hy ⊢
      by_cases e : Lit.string y = Lit.string tx.data.toList
      · have ey : y = tx.data.toList := by injection e
        subst ey
        rw [leftD_put_same ht.isMap hkl]
        exact ⟨by omega, by omega, q.first + d + 1, by omega, by omega, by omega⟩
      · rw [Maps.has_put_other e] at hy
        rw [leftD_put_other e]
        exact O.gk y hy
  | readNone _ _ _ _ _ _ => exact up
  | read _ _ _ _ _ _ _ _ => exact up
  | count _ _ _ _ _ => exact up
  | list => exact up

theorem tidy_of {P : Nat} {S : St} {cs : List Comp} {w : World} (h : All (shL P S ++ cs) w) (i : Nat) (q : Qs) (hq : S[i]? = some (some q)) : Maps.Tidy q.D := by
  have h2 : w.ownsMap Tryd.prog 9 rE q.b q.n q.D := (h.shOut hq).tail.tail.1.2.1
  exact h2.tidy lawS
end Go.Proofs.YtkcepkehgkkkbabDoor
