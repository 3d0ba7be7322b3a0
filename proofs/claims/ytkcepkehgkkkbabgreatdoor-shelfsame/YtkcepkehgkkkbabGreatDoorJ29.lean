import Derived.Test.YtkcepkehgkkkbabGreatDoorJ28
namespace Go.Proofs.YtkcepkehgkkkbabGreatDoor
open Go.RowKit
set_option linter.unusedVariables false

/-- A list of groups that was just made. -/
theorem All.addMadeG {cs : List Comp} {w : World} (h : All cs w) : All (rowG (.slice (some ⟨w.heap.size, 0, none⟩) 0 0) [] :: cs) (w.alloc (.cells #[] 111)) := by
  refine h.add (Fr.below (ba w _)) (rowG_good _ _) ?_ (fun k hk => ?_)
  · have := World.ownsRow_made (base := 0) (e := 111) (size := 2) w #[] 0 (Nat.zero_le _) (by unfold maxLen; omega) rfl
    exact this
  · have hk' : k = w.heap.size := by simp [rowG, Value.ownBlock] at hk; exact hk
    subst hk'
    exact ⟨Nat.le_refl _, by simp⟩
/-- A list of texts that was just made. -/
theorem All.addMade {cs : List Comp} {w : World} (h : All cs w) : All (ownC 9 (.slice (some ⟨w.heap.size, 0, none⟩) 0 0) (txtV []) :: cs) (w.alloc (.cells #[] 9)) := by
  refine h.addOwn (ba w _) ?_
  have := World.ownsRow_made (base := w.heap.size) (e := 9) (size := 1) w #[] 0 (Nat.le_refl _) (by unfold maxLen; omega) rfl
  exact this

/-- One entry, as it is laid down. -/
def tookF (who : List UInt8) (idx : Int) (p : List UInt8 × Int) : List UInt8 × Int := if p.1 = who then (p.1, idx) else p

end Go.Proofs.YtkcepkehgkkkbabGreatDoor

namespace Go.Proofs.YtkcepkehgkkkbabGreatDoor
open Go.RowKit
set_option linter.unusedVariables false

abbrev sQ : ByteArray := ⟨#[113]⟩

/-- What holds of the queue that is watched, the list of what was pushed and the groups that took. -/
structure Kq (Q : Qs) (pushed : List ByteArray) (gl : List (List UInt8 × Int)) : Prop where
  nm : Q.nm = sQ
  len : pushed.length = Q.first + Q.items.length
  drop : pushed.drop Q.first = Q.items
  gs : ∀ p ∈ gl, Maps.has Q.D (.string p.1) = true ∧ p.2 < leftD Q.D (.string p.1)
structure Kept (i : Nat) (S : St) (pushed : List ByteArray) (gl : List (List UInt8 × Int)) : Prop where
  ok : OkS (i + 1) S
  q : ∃ Q, S[0]? = some (some Q) ∧ Kq Q pushed gl
  pl : pushed.length ≤ i
  gn : gl.length ≤ i
theorem OkS.up {N : Nat} {S : St} (h : OkS N S) : OkS (N + 1) S := ⟨h.len, fun i q hq => by
    have O := h.each i q hq
    exact ⟨O.nm0, O.nm16, O.len, O.small, O.fin, O.gs, O.gk, Nat.le_succ_of_le O.cn⟩, h.one⟩
theorem Kept.up {i : Nat} {S : St} {pushed : List ByteArray} {gl : List (List UInt8 × Int)} (h : Kept i S pushed gl) : Kept (i + 1) S pushed gl := ⟨h.ok.up, h.q, Nat.le_succ_of_le h.pl, Nat.le_succ_of_le h.gn⟩

section
variable {i : Nat} {S S' : St} {pushed : List ByteArray} {gl : List (List UInt8 × Int)} {k n m c x j : Int} {nm tx : ByteArray} {items : List ByteArray}

/-- Another queue's op. -/
theorem kept_far (h : Kept i S pushed gl) (hT : ∀ (i : Nat) (q : Qs), S[i]? = some (some q) → Maps.Tidy q.D) (hk : chkA k nm.size tx.size n m = 0) (hD : Deed S nm tx n m k S' c x items j) (hn : nm ≠ sQ) : Kept (i + 1) S' pushed gl := by
  obtain ⟨Q, hQ, K⟩ := h.q
  refine ⟨deed_ok h.ok hT hk hD, ⟨Q, ?_, K⟩, Nat.le_succ_of_le h.pl, Nat.le_succ_of_le h.gn⟩
  have other : ∀ (f : Nat) (s : Option Qs), f ≠ 0 → (S.set f s)[0]? = some (some Q) := fun f s hf => by
    rw [List.getElem?_set_ne (by omega)]; exact hQ
  have ne0 : ∀ (f : Nat) (q : Qs), S[f]? = some (some q) → q.nm = nm → f ≠ 0 := fun f q hs he h0 => by
    subst h0
    rw [hQ] at hs
    simp only [Option.some.injEq] at hs
    subst hs
    exact hn (by rw [← he, K.nm])
  cases hD with
  | make f b _ _ hs => exact other f _ (fun h0 => by subst h0; rw [hQ] at hs; simp at hs)
  | drop f q _ hs hn' => exact other f _ (ne0 f q hs hn')
  | push f q iv' _ hs hn' _ _ => exact other f _ (ne0 f q hs hn')
  | trim f q iv' D' d _ hs hn' _ _ _ _ => exact other f _ (ne0 f q hs hn')
  | take f q d item _ hs hn' _ _ => exact other f _ (ne0 f q hs hn')
  | _ => exact hQ

/-- The watched queue is found at the first slot. -/
theorem kept_at (h : Kept i S pushed gl) {Q : Qs} (hQ : S[0]? = some (some Q)) (hn : nm = sQ) {f : Nat} {q : Qs} (hs : S[f]? = some (some q)) (he : q.nm = nm) : f = 0 ∧ q = Q := by
  obtain ⟨Q', hQ', K⟩ := h.q
  rw [hQ] at hQ'
  simp only [Option.some.injEq] at hQ'
  subst hQ'
  have := h.ok.one f 0 q Q hs hQ (by rw [he, hn, K.nm])
  subst this
  rw [hQ] at hs
  simp only [Option.some.injEq] at hs
  exact ⟨rfl, hs.symm⟩
theorem kept_found (h : Kept i S pushed gl) (hn : nm = sQ) : findN (stV S) nm = 0 := by
  obtain ⟨Q, hQ, K⟩ := h.q
  rcases find_cases h.ok nm (by rw [hn]; decide) with ⟨_, h2⟩ | ⟨f, q, h2, hs, he⟩
  · exact absurd K.nm (by rw [← hn]; exact h2 0 Q hQ)
  · obtain ⟨rfl, _⟩ := kept_at h hQ hn hs he
    exact h2

/-- Nothing is done. -/
theorem kept_not (h : Kept i S pushed gl) (hD : Deed S nm tx n m k S' c x items j) (hc : c ≠ 0) : Kept (i + 1) S' pushed gl := by
  cases hD <;> first | exact h.up | exact absurd rfl hc

theorem kept_no1 (h : Kept i S pushed gl) (hn : nm = sQ) (hD : Deed S nm tx n m 1 S' c x items j) : c ≠ 0 := by
  have hf := kept_found h hn
  generalize hk : (1 : Int) = kk at hD
  cases hD with
  | there _ => omega
  | full h1 _ => rw [h1] at hf; omega
  | make f b h1 _ _ => rw [h1] at hf; omega
  | _ => omega

theorem kept_push (h : Kept i S pushed gl) (hT : ∀ (i : Nat) (q : Qs), S[i]? = some (some q) → Maps.Tidy q.D) (hk : chkA 3 nm.size tx.size n m = 0) (hn : nm = sQ) (hD : Deed S nm tx n m 3 S' c x items j) (hc : c = 0) : x = (pushed.length : Int) ∧ Kept (i + 1) S' (pushed ++ [tx]) gl := by
  obtain ⟨Q, hQ, K⟩ := h.q
  have ok := deed_ok h.ok hT hk hD
  generalize hkk : (3 : Int) = kk at hD
  cases hD with
  | push f q iv' _ hs hn' hl hf =>
    obtain ⟨rfl, rfl⟩ := kept_at h hQ hn hs hn'
    have hlen := K.len
    have hil : 0 < S.length := by rw [h.ok.len]; omega
    refine ⟨by omega, ok, ⟨_, by rw [List.getElem?_set_self hil], ?_⟩, by rw [List.length_append]; have := h.pl; simp; omega, Nat.le_succ_of_le h.gn⟩
    refine ⟨K.nm, by simp only [List.length_append]; omega, ?_, K.gs⟩
    simp only
    rw [List.drop_append_of_le_length (by omega), K.drop]
  | _ => omega

theorem kept_trim (h : Kept i S pushed gl) (hT : ∀ (i : Nat) (q : Qs), S[i]? = some (some q) → Maps.Tidy q.D) (hk : chkA 4 nm.size tx.size n m = 0) (hn : nm = sQ) (hD : Deed S nm tx n m 4 S' c x items j) (hc : c = 0) : Kept (i + 1) S' pushed gl := by
  obtain ⟨Q, hQ, K⟩ := h.q
  have ok := deed_ok h.ok hT hk hD
  generalize hkk : (4 : Int) = kk at hD
  cases hD with
  | trim f q iv' D' d _ hs hn' hd h0 hl ht =>
    obtain ⟨rfl, rfl⟩ := kept_at h hQ hn hs hn'
    have hlen := K.len
    have hil : 0 < S.length := by rw [h.ok.len]; omega
    refine ⟨ok, ⟨_, by rw [List.getElem?_set_self hil], ?_⟩, Nat.le_succ_of_le h.pl, Nat.le_succ_of_le h.gn⟩
    refine ⟨K.nm, by simp only [List.length_drop]; omega, ?_, fun p hp => ?_⟩
    · simp only
      rw [← K.drop, List.drop_drop]
    · obtain ⟨g1, g2⟩ := K.gs p hp
      simp only
      have hv := ht.val _ g1
      rw [if_neg (by simp)] at hv
      exact ⟨by rw [ht.has]; exact g1, by rw [hv]; omega⟩
  | trimNone _ _ _ _ _ _ => exact h.up
  | _ => omega

theorem kept_take (h : Kept i S pushed gl) (hT : ∀ (i : Nat) (q : Qs), S[i]? = some (some q) → Maps.Tidy q.D) (hk : chkA 5 nm.size tx.size n m = 0) (hn : nm = sQ) (hD : Deed S nm tx n m 5 S' c x items j) (hc : c = 0) :
    ∃ (a : Nat) (item : ByteArray), x = (a : Int) ∧ items = [item] ∧ a + 1 ≤ pushed.length ∧ (pushed.drop a).take 1 = [item] ∧ (∀ c, (tx.data.toList, c) ∈ gl → c < x) ∧ ∀ gl', (∀ p ∈ gl', p ∈ gl ∨ p = (tx.data.toList, x)) → gl'.length ≤ gl.length + 1 → Kept (i + 1) S' pushed gl' := by
  obtain ⟨Q, hQ, K⟩ := h.q
  have ok := deed_ok h.ok hT hk hD
  have cc := chk_5 hk
  generalize hkk : (5 : Int) = kk at hD
  cases hD with
  | take f q d item _ hs hn' hd hh =>
    obtain ⟨rfl, rfl⟩ := kept_at h hQ hn hs hn'
    have hlen := K.len
    have hil : 0 < S.length := by rw [h.ok.len]; omega
    have hdl : d < q.items.length := (List.getElem?_eq_some_iff.1 hd).1
    have ht := hT 0 q hQ
    have hkl : WideAt.IsKeyLit (.string tx.data.toList) := lawS.key (WideMaps.keyOf_string_mk Tryz.underlying9 (by unfold maxLen; omega))
    refine ⟨q.first + d, item, by omega, rfl, by omega, ?_, ?_, ?_⟩
    · have e1 : pushed.drop (q.first + d) = q.items.drop d := by rw [← K.drop, List.drop_drop]
      rw [e1, List.drop_eq_getElem_cons hdl]
      have e2 : q.items[d] = item := (List.getElem?_eq_some_iff.1 hd).2
      rw [e2]; rfl
    · intro c' hc'
      obtain ⟨g1, g2⟩ := K.gs _ hc'
      simp only at g1 g2
      rcases hh with ⟨_, h2⟩ | ⟨h1, _⟩
      · omega
      · rw [g1] at h1; cases h1
    · intro gl' hg hgl
      refine ⟨ok, ⟨_, by rw [List.getElem?_set_self hil], ?_⟩, Nat.le_succ_of_le h.pl, by have := h.gn; omega⟩
      refine ⟨K.nm, K.len, K.drop, fun p hp => ?_⟩
      simp only
      have old : ∀ y : List UInt8, Maps.has q.D (.string y) = true → Maps.has (q.D.put (.string tx.data.toList) (.lit (.int .i64 ((q.first : Int) + (d : Int) + 1)))) (.string y) = true := by
        intro y hy
        by_cases e : Lit.string y = Lit.string tx.data.toList
        · rw [e]; exact Maps.has_put_same ht.isMap hkl _
        · rw [Maps.has_put_other e]; exact hy
      rcases hg p hp with hp | rfl
      · obtain ⟨g1, g2⟩ := K.gs p hp
        refine ⟨old _ g1, ?_⟩
        by_cases e : Lit.string p.1 = Lit.string tx.data.toList
        · have ep : p.1 = tx.data.toList := by injection e
          rw [ep] at g1 g2 ⊢
          rw [leftD_put_same ht.isMap hkl]
          rcases hh with ⟨_, h2⟩ | ⟨h1, _⟩
          · omega
          · rw [g1] at h1; cases h1
        · rw [leftD_put_other e]; exact g2
      · simp only
        rw [leftD_put_same ht.isMap hkl]
        exact ⟨Maps.has_put_same ht.isMap hkl _, by omega⟩
  | _ => omega

theorem kept_read (h : Kept i S pushed gl) (hk : chkA 6 nm.size tx.size n m = 0) (hn : nm = sQ) (hD : Deed S nm tx n m 6 S' c x items j) (hc : c = 0) : (items.length : Int) ≤ m ∧ items.length ≤ 8 ∧ (0 < items.length → n ≤ x) ∧ (items = [] ∨ ∃ a : Nat, x = (a : Int) ∧ a + items.length ≤ pushed.length ∧ (pushed.drop a).take items.length = items) ∧ Kept (i + 1) S' pushed gl := by
  obtain ⟨Q, hQ, K⟩ := h.q
  have cc := chk_6 hk
  generalize hkk : (6 : Int) = kk at hD
  cases hD with
  | readNone _ _ _ _ _ _ => exact ⟨by simp; omega, by simp, by simp, Or.inl rfl, h.up⟩
  | read f q d _ hs hn' hd hl =>
    obtain ⟨rfl, rfl⟩ := kept_at h hQ hn hs hn'
    have hlen := K.len
    have hll : ((q.items.drop d).take m.toNat).length = min m.toNat (q.items.length - d) := by rw [List.length_take, List.length_drop]
    refine ⟨by rw [hll]; omega, by rw [hll]; omega, fun _ => by omega, Or.inr ⟨q.first + d, by omega, by rw [hll]; omega, ?_⟩, h.up⟩
    have e1 : pushed.drop (q.first + d) = q.items.drop d := by rw [← K.drop, List.drop_drop]
    rw [e1, hll, ← List.length_drop]
    rw [List.take_eq_take_iff]
    omega
  | _ => omega

theorem kept_count (h : Kept i S pushed gl) (hn : nm = sQ) (hD : Deed S nm tx n m 7 S' c x items j) (hc : c = 0) : x ≤ (pushed.length : Int) ∧ x ≤ 32 ∧ Kept (i + 1) S' pushed gl := by
  obtain ⟨Q, hQ, K⟩ := h.q
  generalize hkk : (7 : Int) = kk at hD
  cases hD with
  | count f q _ hs hn' =>
    obtain ⟨rfl, rfl⟩ := kept_at h hQ hn hs hn'
    have hlen := K.len
    have := (h.ok.each 0 q hQ).len
    exact ⟨by omega, by omega, h.up⟩
  | _ => omega
end
end Go.Proofs.YtkcepkehgkkkbabGreatDoor

namespace Go.Proofs.YtkcepkehgkkkbabGreatDoor
open Go.RowKit
set_option linter.unusedVariables false

/-- An op, as its five cells have it. -/
structure Ov where
  k : Int
  nm : ByteArray
  tx : ByteArray
  n : Int
  m : Int
structure Five (w : World) (g p : Nat) (e : Ov) : Prop where
  c0 : w.cell? ⟨g, p, none⟩ = some (.int .i64 e.k)
  c1 : w.cell? ⟨g, p + 1, none⟩ = some (.string e.nm)
  c2 : w.cell? ⟨g, p + 2, none⟩ = some (.string e.tx)
  c3 : w.cell? ⟨g, p + 3, none⟩ = some (.int .i64 e.n)
  c4 : w.cell? ⟨g, p + 4, none⟩ = some (.int .i64 e.m)
theorem Five.later {w w' : World} {g p : Nat} {e : Ov} (h : Five w g p e) (hg : g < w.heap.size) (hb : Below w.heap.size w w') : Five w' g p e :=
  ⟨cell_under hb hg h.c0, cell_under hb hg h.c1, cell_under hb hg h.c2, cell_under hb hg h.c3, cell_under hb hg h.c4⟩
/-- A list of ops that came in. -/
def OpsAt (w : World) (s : Value) (l : List Ov) : Prop := ∃ ao c, s = .slice ao l.length c ∧ (l = [] ∨ ∃ g o, ao = some ⟨g, o, none⟩ ∧ g < w.heap.size ∧ ∀ j (h : j < l.length), Five w g (o + j * 5) l[j])
theorem OpsAt.form {w : World} {s : Value} {l : List Ov} (h : OpsAt w s l) : ∃ ao c, s = .slice ao l.length c := by obtain ⟨ao, c, e, _⟩ := h; exact ⟨ao, c, e⟩
theorem OpsAt.at {w w' : World} {ao : Option Addr} {n c : Nat} {l : List Ov} (h : OpsAt w (.slice ao n c) l) (hb : Below w.heap.size w w') {j : Nat} (hj : j < l.length) : ∃ g o, ao = some ⟨g, o, none⟩ ∧ g < w'.heap.size ∧ Five w' g (o + j * 5) l[j] := by
  obtain ⟨ao', c', e, hx⟩ := h
  simp only [Value.slice.injEq] at e
  obtain ⟨rfl, _, _⟩ := e
  rcases hx with rfl | ⟨g, o, ea, hg, hcell⟩
  · simp at hj
  · exact ⟨g, o, ea, Nat.lt_of_lt_of_le hg hb.size, (hcell j hj).later hg hb⟩

/-- A shelf without queues. -/
abbrev S0 : St := [none, none, none, none, none, none, none, none]
theorem S0_ok : OkS 0 S0 := by
  have no : ∀ (i : Nat) (q : Qs), S0[i]? ≠ some (some q) := by
    intro i q h
    have : i < 8 := (List.getElem?_eq_some_iff.1 h).1
    obtain rfl | rfl | rfl | rfl | rfl | rfl | rfl | rfl : i = 0 ∨ i = 1 ∨ i = 2 ∨ i = 3 ∨ i = 4 ∨ i = 5 ∨ i = 6 ∨ i = 7 := by omega
    all_goals simp at h
  exact ⟨rfl, fun i q h => absurd h (no i q), fun i j q q' h => absurd h (no i q)⟩
theorem S0_find : findN (stV S0) sQ = -1 := by kernel_rfl
theorem S0_free : findN (stV S0) ⟨#[]⟩ = 0 := by kernel_rfl
theorem kept_first {S' : St} {n m c x j : Int} {items : List ByteArray} {tx : ByteArray} (hk : chkA 1 sQ.size tx.size n m = 0) (hD : Deed S0 sQ tx n m 1 S' c x items j) : c = 0 ∧ Kept 0 S' [] [] := by
  have ok := deed_ok S0_ok (fun i q h => by
    have : i < 8 := (List.getElem?_eq_some_iff.1 h).1
    obtain rfl | rfl | rfl | rfl | rfl | rfl | rfl | rfl : i = 0 ∨ i = 1 ∨ i = 2 ∨ i = 3 ∨ i = 4 ∨ i = 5 ∨ i = 6 ∨ i = 7 := by omega
    all_goals simp at h) hk hD
  generalize hkk : (1 : Int) = kk at hD
  cases hD with
  | make f b h hf hs =>
    rw [S0_free] at hf
    obtain rfl : f = 0 := by omega
    exact ⟨rfl, ok, ⟨_, rfl, ⟨rfl, rfl, rfl, by simp⟩⟩, by simp, by simp⟩
  | there h => exact absurd S0_find h
  | full h hf => rw [S0_free] at hf; omega
  | _ => omega

theorem All.sublist {cs ds : List Comp} {w : World} (hs : ds.Sublist cs) (h : All cs w) : All ds w := by
  induction hs with
  | slnil => exact h
  | cons a _ ih => exact ih h.2.2
  | cons_cons a hs ih => exact ⟨h.1, fun d hd => h.2.1 d (hs.subset hd), ih h.2.2⟩
theorem mid2 (a b : Comp) (L R : List Comp) : (b :: a :: (L ++ R)).Perm (L ++ (a :: b :: R)) := by
  refine (List.Perm.swap _ _ _).trans ?_
  have := (List.perm_append_comm (l₁ := [a, b]) (l₂ := L)).append_right R
  simpa using this

theorem toX {L R : List Comp} {r o a b x : Comp} {w : World} (h : All (L ++ (r :: o :: a :: b :: x :: R)) w) : All (x :: (L ++ (r :: o :: a :: b :: R))) w := by
  have := (List.perm_middle (a := x) (l₁ := L ++ [r, o, a, b]) (l₂ := R))
  refine h.perm ?_
  simpa using this
theorem toX0 {L R : List Comp} {o a b x : Comp} {w : World} (h : All (L ++ (o :: a :: b :: x :: R)) w) : All (x :: (L ++ (o :: a :: b :: R))) w := by
  have := (List.perm_middle (a := x) (l₁ := L ++ [o, a, b]) (l₂ := R))
  refine h.perm ?_
  simpa using this
theorem fromX {L : List Comp} {r o a b x i : Comp} {w : World} (h : All (x :: (L ++ (r :: o :: a :: b :: [i]))) w) : All (L ++ [a, b, x, i]) w := by
  have h1 : All (x :: (L ++ [a, b, i])) w := h.sublist (.cons_cons _ (List.Sublist.append (.refl _) (.cons _ (.cons _ (.refl _)))))
  have p := (List.perm_middle (a := x) (l₁ := L ++ [a, b]) (l₂ := [i])).symm
  refine h1.perm ?_
  simpa using p
theorem fromX0 {L : List Comp} {o a b x i : Comp} {w : World} (h : All (x :: (L ++ (o :: a :: b :: [i]))) w) : All (L ++ [a, b, x, i]) w := by
  have h1 : All (x :: (L ++ [a, b, i])) w := h.sublist (.cons_cons _ (List.Sublist.append (.refl _) (.cons _ (.refl _))))
  have p := (List.perm_middle (a := x) (l₁ := L ++ [a, b]) (l₂ := [i])).symm
  refine h1.perm ?_
  simpa using p

/-- The round's relation. -/
def KRel (w : World) (P X i : Nat) (pa : Option Addr) (pL pc : Nat) (ga : Option Addr) (gL gc : Nat) (wr : World) : Prop :=
  ∃ (S : St) (pushed : List ByteArray) (gl : List (List UInt8 × Int)) (xc xn : Int) (xv : Value), pL = pushed.length ∧ gL = gl.length ∧ Kept i S pushed gl ∧ All (shL P S ++ [ownC 9 (.slice pa pL pc) (txtV pushed), rowG (.slice ga gL gc) gl, blkC X [.int .i64 xc, .int .i64 xn, xv] 59, inC w]) wr

end Go.Proofs.YtkcepkehgkkkbabGreatDoor
