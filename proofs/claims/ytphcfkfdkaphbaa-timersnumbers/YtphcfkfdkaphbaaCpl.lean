import Derived.Test.YtphcfkfdkaphbaaRefK
import Derived.Test.YtphcfkfdkaphbaaTickI
import Derived.Test.YtphcfkfdkaphbaaArmedI
namespace Go.Proofs.Ytphcfkfdkaphbaa
open Go.RowKit Go.Maps
set_option linter.unusedVariables false

abbrev lI (k : Int) : Lit := .int .i64 k
def e0 : ByteArray := ⟨#[]⟩
theorem key_lit {k : Int} (h : (lI k).wf = true) : WideAt.IsKeyLit (lI k) := lawI.key (Maps.keyOf_int_mk Try.underlying3 h)
theorem bef0 (a b : Int) : bef e0 e0 a b = decide (a < b) := by
  have h : e0.toList = [] := by rw [ByteArray.toList_eq]; rfl
  unfold bef
  rw [h, if_neg (by simp [Op.bytesLess]), if_pos rfl]

/-- Both tables hold the same. -/
structure Cp (D : DataW Unit) (ts : List Tm) : Prop where
  srt : ts.Pairwise fun x y => x.k < y.k
  txt : ∀ x ∈ ts, x.t = e0
  lft : ∀ x ∈ ts, 1 ≤ x.l ∧ x.l ≤ 1024
  wf : ∀ x ∈ ts, (lI x.k).wf = true
  has : ∀ kl, Maps.has D kl = true ↔ ∃ x ∈ ts, kl = lI x.k
  val : ∀ x ∈ ts, leftD D (lI x.k) = x.l

theorem Cp.start : Cp (.map []) [] := ⟨.nil, by simp, by simp, by simp, fun kl => by simp [Maps.has], by simp⟩

theorem srt_keys {ts : List Tm} (h : ts.Pairwise fun x y => x.k < y.k) : (ts.map fun x => lI x.k).Nodup := by
  rw [List.nodup_iff_pairwise_ne, List.pairwise_map]
  exact h.imp (fun hlt e => by simp at e; omega)
theorem Cp.size {D : DataW Unit} {ts : List Tm} (h : Cp D ts) {es : List (Lit × DataW Unit)} (hD : D = .map es) (hp : es.Pairwise fun p q => p.1 ≠ q.1) (hk : ∀ p ∈ es, WideAt.IsKeyLit p.1) : Maps.size D = ts.length := by
  subst hD
  have n1 : (es.map Prod.fst).Nodup := by rw [List.nodup_iff_pairwise_ne, List.pairwise_map]; exact hp
  have n2 := srt_keys h.srt
  have hm : ∀ kl, kl ∈ es.map Prod.fst ↔ kl ∈ ts.map fun x => lI x.k := by
    intro kl
    have := h.has kl
    rw [Maps.has_eq, List.any_eq_true] at this
    constructor
    · intro hm
      obtain ⟨p, hpe, rfl⟩ := List.mem_map.1 hm
      obtain ⟨x, hx, e⟩ := this.1 ⟨p, hpe, WideAt.sameKey_self (hk p hpe)⟩
      exact List.mem_map.2 ⟨x, hx, e.symm⟩
    · intro hm
      obtain ⟨x, hx, e⟩ := List.mem_map.1 hm
      obtain ⟨p, hpe, hs⟩ := this.2 ⟨x, hx, e.symm⟩
      by_cases hpk : p.1 = kl
      · exact List.mem_map.2 ⟨p, hpe, hpk⟩
      · rw [Maps.sameKey_ne hpk] at hs; cases hs
  have := ((List.perm_ext_iff_of_nodup n1 n2).2 hm).length_eq
  simpa [Maps.size_eq] using this

theorem place_spec {ts : List Tm} (ht : ∀ x ∈ ts, x.t = e0) (k : Int) : ∀ i : Nat, (placeT e0 k ts i < 0 ∧ ∀ x ∈ ts, x.k ≠ k) ∨ ∃ (p : Nat) (x : Tm), placeT e0 k ts i = ((i + p : Nat) : Int) ∧ ts[p]? = some x ∧ x.k = k := by
  induction ts with
  | nil => intro i; left; simp [placeT]
  | cons y r ih =>
    intro i
    have hy := ht y (by simp)
    rw [placeT, hy]
    by_cases h : y.k = k
    · right
      exact ⟨0, y, by rw [if_pos ⟨rfl, h⟩]; simp, rfl, h⟩
    · rw [if_neg (fun hh => h hh.2)]
      rcases ih (fun x hx => ht x (by simp [hx])) (i + 1) with ⟨h1, h2⟩ | ⟨p, x, h1, h2, h3⟩
      · left
        exact ⟨h1, fun x hx => by rcases List.mem_cons.1 hx with rfl | hx; exact h; exact h2 x hx⟩
      · right
        exact ⟨p + 1, x, by rw [h1]; congr 1; omega, by simpa using h2, h3⟩

section
variable {D : DataW Unit} {ts : List Tm}
theorem Cp.place (h : Cp D ts) (k : Int) : (placeT e0 k ts 0 < 0 ∧ Maps.has D (lI k) = false ∧ ∀ x ∈ ts, x.k ≠ k) ∨ ∃ (p : Nat) (x : Tm), placeT e0 k ts 0 = (p : Int) ∧ ts[p]? = some x ∧ x.k = k ∧ Maps.has D (lI k) = true := by
  rcases place_spec h.txt k 0 with ⟨h1, h2⟩ | ⟨p, x, h1, h2, h3⟩
  · left
    refine ⟨h1, ?_, h2⟩
    cases hh : Maps.has D (lI k) with
    | false => rfl
    | true =>
      obtain ⟨x, hx, e⟩ := (h.has _).1 hh
      exact absurd (by simpa using e.symm) (h2 x hx)
  · right
    exact ⟨p, x, by simpa using h1, h2, h3, (h.has _).2 ⟨x, List.mem_of_getElem? h2, by rw [h3]⟩⟩

theorem mem_erase {p : Nat} {x : Tm} (h : ts.Pairwise fun x y => x.k < y.k) (hp : ts[p]? = some x) (y : Tm) : y ∈ ts.eraseIdx p ↔ y ∈ ts ∧ y.k ≠ x.k := by
  have hlt := (List.getElem?_eq_some_iff.1 hp).1
  have hs : ts = ts.take p ++ x :: ts.drop (p + 1) := by
    obtain ⟨_, e⟩ := List.getElem?_eq_some_iff.1 hp
    rw [← e, List.getElem_cons_drop, List.take_append_drop]
  rw [List.eraseIdx_eq_take_drop_succ]
  have h' := h
  rw [hs, List.pairwise_append] at h'
  constructor
  · intro hy
    rcases List.mem_append.1 hy with hy | hy
    · exact ⟨List.mem_of_mem_take hy, by have := h'.2.2 y hy x (by simp); omega⟩
    · exact ⟨List.mem_of_mem_drop hy, by have := List.rel_of_pairwise_cons h'.2.1 hy; omega⟩
  · rintro ⟨hy, hne⟩
    rw [hs] at hy
    rcases List.mem_append.1 hy with hy | hy
    · exact List.mem_append_left _ hy
    · rcases List.mem_cons.1 hy with rfl | hy
      · exact absurd rfl hne
      · exact List.mem_append_right _ hy

theorem Cp.cancel (h : Cp D ts) {p : Nat} {x : Tm} (hp : ts[p]? = some x) : Cp (D.del (lI x.k)) (ts.eraseIdx p) := by
  have hm := mem_erase h.srt hp
  refine ⟨h.srt.sublist (List.eraseIdx_sublist ts p), fun y hy => h.txt y ((hm y).1 hy).1, fun y hy => h.lft y ((hm y).1 hy).1, fun y hy => h.wf y ((hm y).1 hy).1, fun kl => ?_, fun y hy => ?_⟩
  · by_cases e : kl = lI x.k
    · subst e
      rw [Maps.has_del_same]
      constructor
      · intro hh; cases hh
      · rintro ⟨y, hy, e⟩
        exact absurd (by simpa using e.symm) ((hm y).1 hy).2
    · rw [Maps.has_del_other e, h.has]
      constructor
      · rintro ⟨y, hy, rfl⟩
        exact ⟨y, (hm y).2 ⟨hy, fun hk => e (by rw [hk])⟩, rfl⟩
      · rintro ⟨y, hy, rfl⟩
        exact ⟨y, ((hm y).1 hy).1, rfl⟩
  · have := (hm y).1 hy
    rw [leftD_del_other (fun e => this.2 (by simpa using e))]
    exact h.val y this.1

theorem mem_set {p : Nat} {x : Tm} (h : ts.Pairwise fun x y => x.k < y.k) (hp : ts[p]? = some x) (m : Int) (y : Tm) : y ∈ ts.set p { x with l := m } ↔ (y ∈ ts ∧ y.k ≠ x.k) ∨ y = { x with l := m } := by
  have hlt := (List.getElem?_eq_some_iff.1 hp).1
  have he := mem_erase h hp y
  rw [← he]
  rw [List.set_eq_take_append_cons_drop, if_pos hlt, List.eraseIdx_eq_take_drop_succ]
  simp only [List.mem_append, List.mem_cons]
  constructor
  · rintro (h | h | h)
    · exact .inl (.inl h)
    · exact .inr h
    · exact .inl (.inr h)
  · rintro ((h | h) | h)
    · exact .inl h
    · exact .inr (.inr h)
    · exact .inr (.inl h)

theorem Cp.again (h : Cp D ts) (hM : Maps.IsMap D) {p : Nat} {x : Tm} (hp : ts[p]? = some x) {m : Int} (h1 : 1 ≤ m) (h2 : m ≤ 1024) : Cp (D.put (lI x.k) (.lit (.int .i64 m))) (ts.set p { x with l := m }) := by
  have hm := mem_set h.srt hp m
  have hxm := List.mem_of_getElem? hp
  have hkl := key_lit (h.wf x hxm)
  refine ⟨?_, fun y hy => ?_, fun y hy => ?_, fun y hy => ?_, fun kl => ?_, fun y hy => ?_⟩
  · have e : (ts.set p { x with l := m }).map (fun x => x.k) = ts.map fun x => x.k := by
      rw [List.map_set]
      obtain ⟨hlt, e⟩ := List.getElem?_eq_some_iff.1 hp
      have : x.k = (ts.map fun x => x.k)[p]'(by simpa using hlt) := by simp [e]
      simp only
      rw [this, List.set_getElem_self]
    have := (List.pairwise_map (f := fun x : Tm => x.k) (R := fun a b => a < b) (l := ts)).2 h.srt
    rw [← e] at this
    exact List.pairwise_map.1 this
  · rcases (hm y).1 hy with hy | rfl
    · exact h.txt y hy.1
    · exact h.txt x hxm
  · rcases (hm y).1 hy with hy | rfl
    · exact h.lft y hy.1
    · exact ⟨h1, h2⟩
  · rcases (hm y).1 hy with hy | rfl
    · exact h.wf y hy.1
    · exact h.wf x hxm
  · by_cases e : kl = lI x.k
    · subst e
      rw [Maps.has_put_same hM hkl]
      exact ⟨fun _ => ⟨{ x with l := m }, (hm _).2 (.inr rfl), rfl⟩, fun _ => rfl⟩
    · rw [Maps.has_put_other e, h.has]
      constructor
      · rintro ⟨y, hy, rfl⟩
        exact ⟨y, (hm y).2 (.inl ⟨hy, fun hk => e (by rw [hk])⟩), rfl⟩
      · rintro ⟨y, hy, rfl⟩
        rcases (hm y).1 hy with hy | rfl
        · exact ⟨y, hy.1, rfl⟩
        · exact absurd rfl e
  · rcases (hm y).1 hy with hy | rfl
    · rw [leftD_put_other (fun e => hy.2 (by simpa using e))]
      exact h.val y hy.1
    · exact leftD_put_same hM hkl .i64 m

/-- The list with one more in its place. -/
def insR (y : Tm) : List Tm → List Tm
  | [] => [y]
  | x :: r => if y.k < x.k then y :: x :: r else x :: insR y r
theorem insS_true (y : Tm) : ∀ (ts acc : List Tm), ts.foldl (insS y) (acc, true) = (acc ++ ts, true)
  | [], acc => by simp
  | x :: r, acc => by
    have : insS y (acc, true) x = (acc ++ [x], true) := by simp [insS]
    rw [List.foldl_cons, this, insS_true y r]; simp
theorem insS_false (y : Tm) (hy : y.t = e0) : ∀ (ts acc : List Tm), (∀ x ∈ ts, x.t = e0) → (if (ts.foldl (insS y) (acc, false)).2 then (ts.foldl (insS y) (acc, false)).1 else (ts.foldl (insS y) (acc, false)).1 ++ [y]) = acc ++ insR y ts
  | [], acc, _ => by simp [insR]
  | x :: r, acc, h => by
    have hx := h x (by simp)
    by_cases hlt : y.k < x.k
    · have : insS y (acc, false) x = (acc ++ [y, x], true) := by simp [insS, hy, hx, bef0, hlt]
      rw [List.foldl_cons, this, insS_true]
      simp [insR, hlt]
    · have : insS y (acc, false) x = (acc ++ [x], false) := by simp [insS, hy, hx, bef0, hlt]
      rw [List.foldl_cons, this, insS_false y hy r _ (fun z hz => h z (by simp [hz]))]
      simp [insR, hlt]
theorem insT_eq (y : Tm) (hy : y.t = e0) (h : ∀ x ∈ ts, x.t = e0) : insT y ts = insR y ts := by
  have := insS_false y hy ts [] h
  simpa [insT] using this
theorem insR_mem (y x : Tm) : ∀ ts : List Tm, x ∈ insR y ts ↔ x = y ∨ x ∈ ts
  | [] => by simp [insR]
  | z :: r => by
    have ih := insR_mem y x r
    unfold insR
    split
    · simp
    · simp only [List.mem_cons, ih]
      constructor
      · rintro (h | h | h)
        · exact .inr (.inl h)
        · exact .inl h
        · exact .inr (.inr h)
      · rintro (h | h | h)
        · exact .inr (.inl h)
        · exact .inl h
        · exact .inr (.inr h)
theorem insR_srt (y : Tm) : ∀ ts : List Tm, ts.Pairwise (fun x y => x.k < y.k) → (∀ x ∈ ts, x.k ≠ y.k) → (insR y ts).Pairwise fun x y => x.k < y.k
  | [], _, _ => by simp [insR]
  | z :: r, h, hne => by
    have ih := insR_srt y r h.of_cons (fun x hx => hne x (by simp [hx]))
    have hz := hne z (by simp)
    unfold insR
    split
    · rename_i hlt
      refine List.pairwise_cons.2 ⟨fun x hx => ?_, h⟩
      rcases List.mem_cons.1 hx with rfl | hx
      · exact hlt
      · have := List.rel_of_pairwise_cons h hx; omega
    · rename_i hlt
      refine List.pairwise_cons.2 ⟨fun x hx => ?_, ih⟩
      rcases (insR_mem y x r).1 hx with rfl | hx
      · omega
      · exact List.rel_of_pairwise_cons h hx
theorem insR_len (y : Tm) : ∀ ts : List Tm, (insR y ts).length = ts.length + 1
  | [] => rfl
  | z :: r => by
    unfold insR
    split
    · simp
    · simp [insR_len y r]

theorem Cp.new (h : Cp D ts) (hM : Maps.IsMap D) {k m : Int} (hw : (lI k).wf = true) (hne : ∀ x ∈ ts, x.k ≠ k) (h1 : 1 ≤ m) (h2 : m ≤ 1024) : Cp (D.put (lI k) (.lit (.int .i64 m))) (insT ⟨e0, k, m⟩ ts) := by
  rw [insT_eq _ rfl h.txt]
  have hm := insR_mem ⟨e0, k, m⟩
  have hkl := key_lit hw
  refine ⟨insR_srt _ _ h.srt hne, fun y hy => ?_, fun y hy => ?_, fun y hy => ?_, fun kl => ?_, fun y hy => ?_⟩
  · rcases (hm y ts).1 hy with rfl | hy
    · rfl
    · exact h.txt y hy
  · rcases (hm y ts).1 hy with rfl | hy
    · exact ⟨h1, h2⟩
    · exact h.lft y hy
  · rcases (hm y ts).1 hy with rfl | hy
    · exact hw
    · exact h.wf y hy
  · by_cases e : kl = lI k
    · subst e
      rw [Maps.has_put_same hM hkl]
      exact ⟨fun _ => ⟨⟨e0, k, m⟩, (hm _ ts).2 (.inl rfl), rfl⟩, fun _ => rfl⟩
    · rw [Maps.has_put_other e, h.has]
      constructor
      · rintro ⟨y, hy, rfl⟩
        exact ⟨y, (hm y ts).2 (.inr hy), rfl⟩
      · rintro ⟨y, hy, rfl⟩
        rcases (hm y ts).1 hy with rfl | hy
        · exact absurd rfl e
        · exact ⟨y, hy, rfl⟩
  · rcases (hm y ts).1 hy with rfl | hy
    · exact leftD_put_same hM hkl .i64 m
    · rw [leftD_put_other (fun e => hne y hy (by simpa using e))]
      exact h.val y hy

theorem mem_stay (y : Tm) : y ∈ stayT ts ↔ ∃ x ∈ ts, x.l ≠ 1 ∧ y = { x with l := x.l - 1 } := by
  unfold stayT
  simp only [List.mem_map, List.mem_filter, decide_eq_true_eq]
  constructor
  · rintro ⟨x, ⟨h1, h2⟩, rfl⟩; exact ⟨x, h1, h2, rfl⟩
  · rintro ⟨x, h1, h2, rfl⟩; exact ⟨x, ⟨h1, h2⟩, rfl⟩
theorem Cp.tick (h : Cp D ts) {D' : DataW Unit} {ss : List Int} (hT : TickR D (fun _ => false) D' (ss.map (Lit.int .i64))) : Cp D' (stayT ts) ∧ ss.mergeSort (fun x y => decide (x ≤ y)) = (goneT ts).map fun x => x.k := by
  constructor
  · refine ⟨?_, fun y hy => ?_, fun y hy => ?_, fun y hy => ?_, fun kl => ?_, fun y hy => ?_⟩
    · unfold stayT
      rw [List.pairwise_map]
      exact h.srt.sublist List.filter_sublist
    · obtain ⟨x, hx, _, rfl⟩ := (mem_stay y).1 hy
      exact h.txt x hx
    · obtain ⟨x, hx, h1, rfl⟩ := (mem_stay y).1 hy
      have := h.lft x hx
      simp only; omega
    · obtain ⟨x, hx, _, rfl⟩ := (mem_stay y).1 hy
      exact h.wf x hx
    · rw [hT.has kl]
      simp only [Bool.false_eq_true, if_false, Bool.and_eq_true, decide_eq_true_eq, h.has]
      constructor
      · rintro ⟨⟨x, hx, rfl⟩, h2⟩
        rw [h.val x hx] at h2
        exact ⟨_, (mem_stay _).2 ⟨x, hx, by omega, rfl⟩, rfl⟩
      · rintro ⟨y, hy, rfl⟩
        obtain ⟨x, hx, h1, rfl⟩ := (mem_stay y).1 hy
        have := h.lft x hx
        refine ⟨⟨x, hx, rfl⟩, ?_⟩
        show 1 < leftD D (lI x.k)
        rw [h.val x hx]; omega
    · obtain ⟨x, hx, h1, rfl⟩ := (mem_stay y).1 hy
      have hh : Maps.has D' (lI x.k) = true := by
        rw [hT.has]
        have := h.lft x hx
        simp only [Bool.false_eq_true, if_false, Bool.and_eq_true, decide_eq_true_eq, h.has]
        exact ⟨⟨x, hx, rfl⟩, by rw [h.val x hx]; omega⟩
      have := hT.val (lI x.k) hh
      simp only [Bool.false_eq_true, if_false] at this
      show leftD D' (lI x.k) = x.l - 1
      rw [this, h.val x hx]
  · have hgs : ((goneT ts).map fun x => x.k).Pairwise (· < ·) := by
      unfold goneT
      rw [List.pairwise_map]
      exact h.srt.sublist List.filter_sublist
    have hnd : ss.Nodup := by
      have := hT.nodup
      rw [List.nodup_iff_pairwise_ne, List.pairwise_map] at this
      rw [List.nodup_iff_pairwise_ne]
      exact this.imp (fun hne e => hne (by rw [e]))
    have hmem : ∀ k, k ∈ ss ↔ k ∈ (goneT ts).map fun x => x.k := by
      intro k
      have := hT.told (lI k)
      rw [List.mem_map] at this
      have e1 : (∃ a, a ∈ ss ∧ Lit.int .i64 a = lI k) ↔ k ∈ ss := ⟨fun ⟨a, ha, e⟩ => by simp at e; rw [← e]; exact ha, fun hk => ⟨k, hk, rfl⟩⟩
      rw [e1] at this
      rw [this, h.has, List.mem_map]
      constructor
      · rintro ⟨⟨x, hx, e⟩, _, hl⟩
        have e' : k = x.k := by simpa using e
        subst e'
        rw [h.val x hx] at hl
        have := h.lft x hx
        exact ⟨x, by unfold goneT; exact List.mem_filter.2 ⟨hx, by simp; omega⟩, rfl⟩
      · rintro ⟨x, hx, rfl⟩
        obtain ⟨h1, h2⟩ := List.mem_filter.1 (show x ∈ ts.filter fun x => decide (x.l = 1) from hx)
        refine ⟨⟨x, h1, rfl⟩, rfl, ?_⟩
        rw [h.val x h1]; simp at h2; omega
    have hp : (ss.mergeSort fun x y => decide (x ≤ y)).Perm ((goneT ts).map fun x => x.k) := by
      refine (List.mergeSort_perm ss _).trans ?_
      refine (List.perm_ext_iff_of_nodup hnd ?_).2 hmem
      rw [List.nodup_iff_pairwise_ne]
      exact hgs.imp (fun hlt e => by omega)
    have hs : (ss.mergeSort fun x y => decide (x ≤ y)).Pairwise (fun x y => decide (x ≤ y) = true) := List.pairwise_mergeSort (fun a b c => by simp; omega) (fun a b => by simp; omega) ss
    refine hp.eq_of_pairwise (le := fun x y => x ≤ y) (fun a b _ _ h1 h2 => by omega) (hs.imp (fun h => by simpa using h)) (hgs.imp (fun h => by omega))
end
end Go.Proofs.Ytphcfkfdkaphbaa
