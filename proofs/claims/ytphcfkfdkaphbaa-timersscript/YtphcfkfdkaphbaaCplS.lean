import Derived.Test.YtphcfkfdkaphbaaRefK
import Derived.Test.YtphcfkfdkaphbaaArmedS
import Derived.Sort.Walk0
namespace Go.Proofs.Ytphcfkfdkaphbaa
open Go.RowKit Go.Maps Go.Sort
set_option linter.unusedVariables false

/-- A timer's name, as bytes. -/
def kt (x : Tm) : List UInt8 := x.t.data.toList
abbrev lS (x : Tm) : Lit := .string (kt x)
theorem toList_data (s : ByteArray) : s.toList = s.data.toList := by rw [ByteArray.toList_eq]
theorem key_litS {s : ByteArray} (h : s.size ≤ maxLen) : WideAt.IsKeyLit (.string s.data.toList) := lawS.key (WideMaps.keyOf_string_mk Try.underlying9 h)
theorem befS (t u : ByteArray) : bef t u 0 0 = decide (t.data.toList < u.data.toList) := by
  unfold bef
  rw [toList_data, toList_data, bytesLess_eq]
  by_cases h : t.data.toList < u.data.toList
  · simp [h]
  · simp [h]
theorem lt_irr (a : List UInt8) : ¬ a < a := List.lt_irrefl a
theorem lt_tr {a b c : List UInt8} (h : a < b) (k : b < c) : a < c := List.lt_trans h k
theorem lt_tri {a b : List UInt8} (h : ¬ a < b) (hn : a ≠ b) : b < a := by
  have h1 : b ≤ a := List.not_lt.1 h
  rcases List.le_iff_lt_or_eq.1 h1 with h2 | h2
  · exact h2
  · exact absurd h2.symm hn
theorem lt_neS {a b : List UInt8} (h : a < b) : a ≠ b := fun e => lt_irr b (by rw [e] at h; exact h)

/-- Both tables of texts hold the same. -/
structure CpS (D : DataW Unit) (ts : List Tm) : Prop where
  srt : ts.Pairwise fun x y => kt x < kt y
  num : ∀ x ∈ ts, x.k = 0
  lft : ∀ x ∈ ts, 1 ≤ x.l ∧ x.l ≤ 1024
  wf : ∀ x ∈ ts, x.t.size ≤ maxLen
  has : ∀ kl, Maps.has D kl = true ↔ ∃ x ∈ ts, kl = lS x
  val : ∀ x ∈ ts, leftD D (lS x) = x.l

theorem CpS.start : CpS (.map []) [] := ⟨.nil, by simp, by simp, by simp, fun kl => by simp [Maps.has], by simp⟩
theorem srtS_keys {ts : List Tm} (h : ts.Pairwise fun x y => kt x < kt y) : (ts.map fun x => lS x).Nodup := by
  rw [List.nodup_iff_pairwise_ne, List.pairwise_map]
  refine h.imp ?_
  intro a b hlt e
  exact lt_neS hlt (by simpa using e)
theorem CpS.size {D : DataW Unit} {ts : List Tm} (h : CpS D ts) {es : List (Lit × DataW Unit)} (hD : D = .map es) (hp : es.Pairwise fun p q => p.1 ≠ q.1) (hk : ∀ p ∈ es, WideAt.IsKeyLit p.1) : Maps.size D = ts.length := by
  subst hD
  have n1 : (es.map Prod.fst).Nodup := by rw [List.nodup_iff_pairwise_ne, List.pairwise_map]; exact hp
  have n2 := srtS_keys h.srt
  have hm : ∀ kl, kl ∈ es.map Prod.fst ↔ kl ∈ ts.map fun x => lS x := by
    intro kl
    have := h.has kl
    rw [Maps.has_eq, List.any_eq_true] at this
    constructor
    · intro hm
      obtain ⟨p, hpe, rfl⟩ := List.mem_map.1 hm
      obtain ⟨x, hx, e⟩ := this.1 ⟨p, hpe, WideAt.sameKey_self (hk p hpe)⟩
      exact List.mem_map.2 ⟨x, hx, e.symm⟩
    · intro hm
      obtain ⟨x, hx, e⟩ := List.mem_map.1 hm
      obtain ⟨p, hpe, hs⟩ := this.2 ⟨x, hx, e.symm⟩
      by_cases hpk : p.1 = kl
      · exact List.mem_map.2 ⟨p, hpe, hpk⟩
      · rw [Maps.sameKey_ne hpk] at hs; cases hs
  have := ((List.perm_ext_iff_of_nodup n1 n2).2 hm).length_eq
  simpa [Maps.size_eq] using this

theorem placeS_spec {ts : List Tm} (ht : ∀ x ∈ ts, x.k = 0) (s : ByteArray) : ∀ i : Nat, (placeT s 0 ts i < 0 ∧ ∀ x ∈ ts, kt x ≠ s.data.toList) ∨ ∃ (p : Nat) (x : Tm), placeT s 0 ts i = ((i + p : Nat) : Int) ∧ ts[p]? = some x ∧ kt x = s.data.toList := by
  induction ts with
  | nil => intro i; left; simp [placeT]
  | cons y r ih =>
    intro i
    have hy := ht y (by simp)
    rw [placeT, hy, toList_data, toList_data]
    by_cases h : kt y = s.data.toList
    · right
      exact ⟨0, y, by rw [if_pos ⟨h, rfl⟩]; simp, rfl, h⟩
    · rw [if_neg (fun hh => h hh.1)]
      rcases ih (fun x hx => ht x (by simp [hx])) (i + 1) with ⟨h1, h2⟩ | ⟨p, x, h1, h2, h3⟩
      · left
        exact ⟨h1, fun x hx => by rcases List.mem_cons.1 hx with rfl | hx; exact h; exact h2 x hx⟩
      · right
        exact ⟨p + 1, x, by rw [h1]; congr 1; omega, by simpa using h2, h3⟩

section
variable {D : DataW Unit} {ts : List Tm}
theorem CpS.place (h : CpS D ts) (s : ByteArray) : (placeT s 0 ts 0 < 0 ∧ Maps.has D (.string s.data.toList) = false ∧ ∀ x ∈ ts, kt x ≠ s.data.toList) ∨ ∃ (p : Nat) (x : Tm), placeT s 0 ts 0 = (p : Int) ∧ ts[p]? = some x ∧ kt x = s.data.toList ∧ Maps.has D (.string s.data.toList) = true := by
  rcases placeS_spec h.num s 0 with ⟨h1, h2⟩ | ⟨p, x, h1, h2, h3⟩
  · left
    refine ⟨h1, ?_, h2⟩
    cases hh : Maps.has D (.string s.data.toList) with
    | false => rfl
    | true =>
      obtain ⟨x, hx, e⟩ := (h.has _).1 hh
      exact absurd (by simpa using e.symm) (h2 x hx)
  · right
    exact ⟨p, x, by simpa using h1, h2, h3, (h.has _).2 ⟨x, List.mem_of_getElem? h2, by rw [← h3]⟩⟩

theorem memS_erase {p : Nat} {x : Tm} (h : ts.Pairwise fun x y => kt x < kt y) (hp : ts[p]? = some x) (y : Tm) : y ∈ ts.eraseIdx p ↔ y ∈ ts ∧ kt y ≠ kt x := by
  have hlt := (List.getElem?_eq_some_iff.1 hp).1
  have hs : ts = ts.take p ++ x :: ts.drop (p + 1) := by
    obtain ⟨_, e⟩ := List.getElem?_eq_some_iff.1 hp
    rw [← e, List.getElem_cons_drop, List.take_append_drop]
  rw [List.eraseIdx_eq_take_drop_succ]
  have h' := h
  rw [hs, List.pairwise_append] at h'
  constructor
  · intro hy
    rcases List.mem_append.1 hy with hy | hy
    · exact ⟨List.mem_of_mem_take hy, lt_neS (h'.2.2 y hy x (by simp))⟩
    · exact ⟨List.mem_of_mem_drop hy, fun e => lt_neS (List.rel_of_pairwise_cons h'.2.1 hy) e.symm⟩
  · rintro ⟨hy, hne⟩
    rw [hs] at hy
    rcases List.mem_append.1 hy with hy | hy
    · exact List.mem_append_left _ hy
    · rcases List.mem_cons.1 hy with rfl | hy
      · exact absurd rfl hne
      · exact List.mem_append_right _ hy

theorem CpS.cancel (h : CpS D ts) {p : Nat} {x : Tm} (hp : ts[p]? = some x) : CpS (D.del (lS x)) (ts.eraseIdx p) := by
  have hm := memS_erase h.srt hp
  refine ⟨h.srt.sublist (List.eraseIdx_sublist ts p), fun y hy => h.num y ((hm y).1 hy).1, fun y hy => h.lft y ((hm y).1 hy).1, fun y hy => h.wf y ((hm y).1 hy).1, fun kl => ?_, fun y hy => ?_⟩
  · by_cases e : kl = lS x
    · subst e
      rw [Maps.has_del_same]
      constructor
      · intro hh; cases hh
      · rintro ⟨y, hy, e⟩
        exact absurd (by simpa using e.symm) ((hm y).1 hy).2
    · rw [Maps.has_del_other e, h.has]
      constructor
      · rintro ⟨y, hy, rfl⟩
        exact ⟨y, (hm y).2 ⟨hy, fun hk => e (by simp [hk])⟩, rfl⟩
      · rintro ⟨y, hy, rfl⟩
        exact ⟨y, ((hm y).1 hy).1, rfl⟩
  · have := (hm y).1 hy
    rw [leftD_del_other (fun e => this.2 (by simpa using e))]
    exact h.val y this.1
theorem CpS.del_none (h : CpS D ts) {s : List UInt8} (hh : Maps.has D (.string s) = false) (hne : ∀ x ∈ ts, kt x ≠ s) : CpS (D.del (.string s)) ts := by
  refine ⟨h.srt, h.num, h.lft, h.wf, fun kl => ?_, fun x hx => ?_⟩
  · by_cases e : kl = .string s
    · subst e
      rw [Maps.has_del_same, ← h.has, hh]
    · rw [Maps.has_del_other e, h.has]
  · rw [leftD_del_other (fun e => hne x hx (by simpa using e))]
    exact h.val x hx

theorem memS_set {p : Nat} {x : Tm} (h : ts.Pairwise fun x y => kt x < kt y) (hp : ts[p]? = some x) (m : Int) (y : Tm) : y ∈ ts.set p { x with l := m } ↔ (y ∈ ts ∧ kt y ≠ kt x) ∨ y = { x with l := m } := by
  have hlt := (List.getElem?_eq_some_iff.1 hp).1
  have he := memS_erase h hp y
  rw [← he]
  rw [List.set_eq_take_append_cons_drop, if_pos hlt, List.eraseIdx_eq_take_drop_succ]
  simp only [List.mem_append, List.mem_cons]
  constructor
  · rintro (h | h | h)
    · exact .inl (.inl h)
    · exact .inr h
    · exact .inl (.inr h)
  · rintro ((h | h) | h)
    · exact .inl h
    · exact .inr (.inr h)
    · exact .inr (.inl h)

theorem CpS.again (h : CpS D ts) (hM : Maps.IsMap D) {p : Nat} {x : Tm} (hp : ts[p]? = some x) {m : Int} (h1 : 1 ≤ m) (h2 : m ≤ 1024) : CpS (D.put (lS x) (.lit (.int .i64 m))) (ts.set p { x with l := m }) := by
  have hm := memS_set h.srt hp m
  have hxm := List.mem_of_getElem? hp
  have hkl : WideAt.IsKeyLit (lS x) := key_litS (h.wf x hxm)
  refine ⟨?_, fun y hy => ?_, fun y hy => ?_, fun y hy => ?_, fun kl => ?_, fun y hy => ?_⟩
  · have e : (ts.set p { x with l := m }).map kt = ts.map kt := by
      rw [List.map_set]
      obtain ⟨hlt, e⟩ := List.getElem?_eq_some_iff.1 hp
      have : kt { x with l := m } = (ts.map kt)[p]'(by simpa using hlt) := by simp [e, kt]
      rw [this, List.set_getElem_self]
    have := (List.pairwise_map (f := kt) (R := fun a b => a < b) (l := ts)).2 h.srt
    rw [← e] at this
    exact List.pairwise_map.1 this
  · rcases (hm y).1 hy with hy | rfl
    · exact h.num y hy.1
    · exact h.num x hxm
  · rcases (hm y).1 hy with hy | rfl
    · exact h.lft y hy.1
    · exact ⟨h1, h2⟩
  · rcases (hm y).1 hy with hy | rfl
    · exact h.wf y hy.1
    · exact h.wf x hxm
  · by_cases e : kl = lS x
    · subst e
      rw [Maps.has_put_same hM hkl]
      exact ⟨fun _ => ⟨{ x with l := m }, (hm _).2 (.inr rfl), rfl⟩, fun _ => rfl⟩
    · rw [Maps.has_put_other e, h.has]
      constructor
      · rintro ⟨y, hy, rfl⟩
        exact ⟨y, (hm y).2 (.inl ⟨hy, fun hk => e (by simp [hk])⟩), rfl⟩
      · rintro ⟨y, hy, rfl⟩
        rcases (hm y).1 hy with hy | rfl
        · exact ⟨y, hy.1, rfl⟩
        · exact absurd rfl e
  · rcases (hm y).1 hy with hy | rfl
    · rw [leftD_put_other (fun e => hy.2 (by simpa using e))]
      exact h.val y hy.1
    · exact leftD_put_same hM hkl .i64 m

/-- The list with one more in its place. -/
def insRS (y : Tm) : List Tm → List Tm
  | [] => [y]
  | x :: r => if kt y < kt x then y :: x :: r else x :: insRS y r
theorem insSS_true (y : Tm) : ∀ (ts acc : List Tm), ts.foldl (insS y) (acc, true) = (acc ++ ts, true)
  | [], acc => by simp
  | x :: r, acc => by
    have : insS y (acc, true) x = (acc ++ [x], true) := by simp [insS]
    rw [List.foldl_cons, this, insSS_true y r]; simp
theorem insSS_false (y : Tm) (hy : y.k = 0) : ∀ (ts acc : List Tm), (∀ x ∈ ts, x.k = 0) → (if (ts.foldl (insS y) (acc, false)).2 then (ts.foldl (insS y) (acc, false)).1 else (ts.foldl (insS y) (acc, false)).1 ++ [y]) = acc ++ insRS y ts
  | [], acc, _ => by simp [insRS]
  | x :: r, acc, h => by
    have hx := h x (by simp)
    have hb : bef y.t x.t y.k x.k = decide (kt y < kt x) := by rw [hy, hx]; exact befS _ _
    by_cases hlt : kt y < kt x
    · have : insS y (acc, false) x = (acc ++ [y, x], true) := by simp [insS, hb, hlt]
      rw [List.foldl_cons, this, insSS_true]
      simp [insRS, hlt]
    · have : insS y (acc, false) x = (acc ++ [x], false) := by simp [insS, hb, hlt]
      rw [List.foldl_cons, this, insSS_false y hy r _ (fun z hz => h z (by simp [hz]))]
      simp [insRS, hlt]
theorem insTS_eq (y : Tm) (hy : y.k = 0) (h : ∀ x ∈ ts, x.k = 0) : insT y ts = insRS y ts := by
  have := insSS_false y hy ts [] h
  simpa [insT] using this
theorem insRS_mem (y x : Tm) : ∀ ts : List Tm, x ∈ insRS y ts ↔ x = y ∨ x ∈ ts
  | [] => by simp [insRS]
  | z :: r => by
    have ih := insRS_mem y x r
    unfold insRS
    split
    · simp
    · simp only [List.mem_cons, ih]
      constructor
      · rintro (h | h | h)
        · exact .inr (.inl h)
        · exact .inl h
        · exact .inr (.inr h)
      · rintro (h | h | h)
        · exact .inr (.inl h)
        · exact .inl h
        · exact .inr (.inr h)
theorem insRS_srt (y : Tm) : ∀ ts : List Tm, ts.Pairwise (fun x y => kt x < kt y) → (∀ x ∈ ts, kt x ≠ kt y) → (insRS y ts).Pairwise fun x y => kt x < kt y
  | [], _, _ => by simp [insRS]
  | z :: r, h, hne => by
    have ih := insRS_srt y r h.of_cons (fun x hx => hne x (by simp [hx]))
    have hz := hne z (by simp)
    unfold insRS
    split
    · rename_i hlt
      refine List.pairwise_cons.2 ⟨fun x hx => ?_, h⟩
      rcases List.mem_cons.1 hx with rfl | hx
      · exact hlt
      · exact lt_tr hlt (List.rel_of_pairwise_cons h hx)
    · rename_i hlt
      refine List.pairwise_cons.2 ⟨fun x hx => ?_, ih⟩
      rcases (insRS_mem y x r).1 hx with rfl | hx
      · exact lt_tri hlt (fun e => hz e.symm)
      · exact List.rel_of_pairwise_cons h hx
theorem insRS_len (y : Tm) : ∀ ts : List Tm, (insRS y ts).length = ts.length + 1
  | [] => rfl
  | z :: r => by
    unfold insRS
    split
    · simp
    · simp [insRS_len y r]

theorem CpS.new (h : CpS D ts) (hM : Maps.IsMap D) {s : ByteArray} {m : Int} (hw : s.size ≤ maxLen) (hne : ∀ x ∈ ts, kt x ≠ s.data.toList) (h1 : 1 ≤ m) (h2 : m ≤ 1024) : CpS (D.put (.string s.data.toList) (.lit (.int .i64 m))) (insT ⟨s, 0, m⟩ ts) := by
  rw [insTS_eq _ rfl h.num]
  have hm := insRS_mem ⟨s, 0, m⟩
  have hkl := key_litS hw
  refine ⟨insRS_srt _ _ h.srt hne, fun y hy => ?_, fun y hy => ?_, fun y hy => ?_, fun kl => ?_, fun y hy => ?_⟩
  · rcases (hm y ts).1 hy with rfl | hy
    · rfl
    · exact h.num y hy
  · rcases (hm y ts).1 hy with rfl | hy
    · exact ⟨h1, h2⟩
    · exact h.lft y hy
  · rcases (hm y ts).1 hy with rfl | hy
    · exact hw
    · exact h.wf y hy
  · by_cases e : kl = .string s.data.toList
    · subst e
      rw [Maps.has_put_same hM hkl]
      exact ⟨fun _ => ⟨⟨s, 0, m⟩, (hm _ ts).2 (.inl rfl), rfl⟩, fun _ => rfl⟩
    · rw [Maps.has_put_other e, h.has]
      constructor
      · rintro ⟨y, hy, rfl⟩
        exact ⟨y, (hm y ts).2 (.inr hy), rfl⟩
      · rintro ⟨y, hy, rfl⟩
        rcases (hm y ts).1 hy with rfl | hy
        · exact absurd rfl e
        · exact ⟨y, hy, rfl⟩
  · rcases (hm y ts).1 hy with rfl | hy
    · exact leftD_put_same hM hkl .i64 m
    · rw [leftD_put_other (fun e => hne y hy (by simpa using e))]
      exact h.val y hy

theorem memS_stay (y : Tm) : y ∈ stayT ts ↔ ∃ x ∈ ts, x.l ≠ 1 ∧ y = { x with l := x.l - 1 } := by
  unfold stayT
  simp only [List.mem_map, List.mem_filter, decide_eq_true_eq]
  constructor
  · rintro ⟨x, ⟨h1, h2⟩, rfl⟩; exact ⟨x, h1, h2, rfl⟩
  · rintro ⟨x, h1, h2, rfl⟩; exact ⟨x, ⟨h1, h2⟩, rfl⟩
/-- Lists of names without doubles that have the same names, in order. -/
theorem sorted_eq {ss gs : List (List UInt8)} (hnd : ss.Nodup) (hg : gs.Pairwise (· < ·)) (hmem : ∀ k, k ∈ ss ↔ k ∈ gs) : (ss.mergeSort fun x y => decide (x ≤ y)) = gs := by
  have hp : (ss.mergeSort fun x y => decide (x ≤ y)).Perm gs := by
    refine (List.mergeSort_perm ss _).trans ?_
    refine (List.perm_ext_iff_of_nodup hnd ?_).2 hmem
    rw [List.nodup_iff_pairwise_ne]
    exact hg.imp (fun hlt => lt_neS hlt)
  have hs : (ss.mergeSort fun x y => decide (x ≤ y)).Pairwise (fun x y => decide (x ≤ y) = true) := List.pairwise_mergeSort (fun a b c => by simpa using fun h k => List.le_trans h k) (fun a b => by simpa using List.le_total a b) ss
  refine hp.eq_of_pairwise (le := fun x y => x ≤ y) (fun a b _ _ h1 h2 => List.le_antisymm h1 h2) (hs.imp (fun h => by simpa using h)) (hg.imp (fun h => List.le_of_lt h))
theorem CpS.tick (h : CpS D ts) {D' : DataW Unit} {ss : List (List UInt8)} (hT : TickR D (fun _ => false) D' (ss.map Lit.string)) : CpS D' (stayT ts) ∧ ss.mergeSort (fun x y => decide (x ≤ y)) = (goneT ts).map kt := by
  constructor
  · refine ⟨?_, fun y hy => ?_, fun y hy => ?_, fun y hy => ?_, fun kl => ?_, fun y hy => ?_⟩
    · unfold stayT
      rw [List.pairwise_map]
      exact h.srt.sublist List.filter_sublist
    · obtain ⟨x, hx, _, rfl⟩ := (memS_stay y).1 hy
      exact h.num x hx
    · obtain ⟨x, hx, h1, rfl⟩ := (memS_stay y).1 hy
      have := h.lft x hx
      simp only; omega
    · obtain ⟨x, hx, _, rfl⟩ := (memS_stay y).1 hy
      exact h.wf x hx
    · rw [hT.has kl]
      simp only [Bool.false_eq_true, if_false, Bool.and_eq_true, decide_eq_true_eq, h.has]
      constructor
      · rintro ⟨⟨x, hx, rfl⟩, h2⟩
        rw [h.val x hx] at h2
        exact ⟨_, (memS_stay _).2 ⟨x, hx, by omega, rfl⟩, rfl⟩
      · rintro ⟨y, hy, rfl⟩
        obtain ⟨x, hx, h1, rfl⟩ := (memS_stay y).1 hy
        have := h.lft x hx
        refine ⟨⟨x, hx, rfl⟩, ?_⟩
        show 1 < leftD D (lS x)
        rw [h.val x hx]; omega
    · obtain ⟨x, hx, h1, rfl⟩ := (memS_stay y).1 hy
      have hh : Maps.has D' (lS x) = true := by
        rw [hT.has]
        have := h.lft x hx
        simp only [Bool.false_eq_true, if_false, Bool.and_eq_true, decide_eq_true_eq, h.has]
        exact ⟨⟨x, hx, rfl⟩, by rw [h.val x hx]; omega⟩
      have := hT.val (lS x) hh
      simp only [Bool.false_eq_true, if_false] at this
      show leftD D' (lS x) = x.l - 1
      rw [this, h.val x hx]
  · refine sorted_eq ?_ ?_ ?_
    · have := hT.nodup
      rw [List.nodup_iff_pairwise_ne, List.pairwise_map] at this
      rw [List.nodup_iff_pairwise_ne]
      exact this.imp (fun hne e => hne (by rw [e]))
    · unfold goneT
      rw [List.pairwise_map]
      exact h.srt.sublist List.filter_sublist
    · intro k
      have := hT.told (.string k)
      rw [List.mem_map] at this
      have e1 : (∃ a, a ∈ ss ∧ Lit.string a = .string k) ↔ k ∈ ss := ⟨fun ⟨a, ha, e⟩ => by simp at e; rw [← e]; exact ha, fun hk => ⟨k, hk, rfl⟩⟩
      rw [e1] at this
      rw [this, h.has, List.mem_map]
      constructor
      · rintro ⟨⟨x, hx, e⟩, _, hl⟩
        have e' : k = kt x := by simpa using e
        subst e'
        rw [h.val x hx] at hl
        have := h.lft x hx
        exact ⟨x, by unfold goneT; exact List.mem_filter.2 ⟨hx, by simp; omega⟩, rfl⟩
      · rintro ⟨x, hx, rfl⟩
        obtain ⟨h1, h2⟩ := List.mem_filter.1 (show x ∈ ts.filter fun x => decide (x.l = 1) from hx)
        refine ⟨⟨x, h1, rfl⟩, rfl, ?_⟩
        rw [h.val x h1]; simp at h2; omega
/-- Who runs, in order. -/
theorem CpS.armed (h : CpS D ts) {es : List (Lit × DataW Unit)} (hD : D = .map es) (hp : es.Pairwise fun p q => p.1 ≠ q.1) (hk : ∀ p ∈ es, ∃ x, p.1 = .string x) (hk2 : ∀ p ∈ es, WideAt.IsKeyLit p.1) {ss : List (List UInt8)} (hs : ss.Perm (strKeys D)) : ss.mergeSort (fun x y => decide (x ≤ y)) = ts.map kt := by
  subst hD
  have hn : (strKeys (.map es : DataW Unit)).Nodup := by
    unfold strKeys
    rw [List.nodup_iff_pairwise_ne, List.pairwise_map]
    refine (List.Pairwise.and_mem.1 hp).imp ?_
    rintro p q ⟨hp1, hq1, hne⟩ e
    obtain ⟨x, ex⟩ := hk p hp1
    obtain ⟨y, ey⟩ := hk q hq1
    rw [ex, ey] at e hne
    exact hne (by simpa [strOf] using e)
  refine sorted_eq (hs.nodup_iff.2 hn) ?_ ?_
  · rw [List.pairwise_map]; exact h.srt
  · intro k
    rw [hs.mem_iff, List.mem_map]
    have := h.has (.string k)
    rw [Maps.has_eq, List.any_eq_true] at this
    unfold strKeys
    rw [List.mem_map]
    constructor
    · rintro ⟨p, hpe, e⟩
      obtain ⟨x, ex⟩ := hk p hpe
      have e2 : p.1 = .string k := by rw [ex] at e ⊢; simp [strOf] at e; rw [e]
      obtain ⟨z, hz, ez⟩ := this.1 ⟨p, hpe, by have := WideAt.sameKey_self (hk2 p hpe); rw [e2] at this ⊢; exact this⟩
      exact ⟨z, hz, by simpa using ez.symm⟩
    · rintro ⟨z, hz, rfl⟩
      obtain ⟨p, hpe, hs⟩ := this.2 ⟨z, hz, rfl⟩
      by_cases hpk : p.1 = .string (kt z)
      · exact ⟨p, hpe, by rw [hpk]; rfl⟩
      · rw [Maps.sameKey_ne hpk] at hs; cases hs
end
end Go.Proofs.Ytphcfkfdkaphbaa
