import Derived.Test.YtkcepkehgkkkbabGreatDoorJ6
import Derived.Maps.RangeWalk
import Derived.Maps.Ext
namespace Go.Proofs.YtkcepkehgkkkbabGreatDoor
open Go.RowKit Go.ChangeMaps Go.MapKept Go.WideShapes
open Go.WideElems (Fit rd rg pl rd_key rd_val rg_of other_key)
open Go.Maps (Keyed)
set_option linter.unusedVariables false

section
variable {H : Type} {P : Program} {k : TypeId} {R : Value → Option (DataW H × List MemPlace)} {w : World} {b r n : Nat} {D : DataW H} {left : Lit → Bool} {cnt : Nat}

theorem left_size (es : Array MapEntry) (seen : Array Nat) : (leftOf es seen).size = ((es.toList.map (·.born)).filter fun x => !seen.contains x).length := by
  unfold leftOf
  rw [← Array.length_toList, Array.toList_filter, List.filter_map, List.length_map]
  rfl

/-- 'm[k] = v' in a round of a loop over m, at a key that is there: the loop goes on as it would. -/
theorem ranges_store {t e : TypeId} (h : w.ranges P k R b r n D left cnt) (K : Keyed P k) (ht : P.underlying t = some (.map k e)) (hn : n < maxLen) {key val : Value} {kl : Lit} {d : DataW H} {ps : List MemPlace}
    (hkey : keyOf P k key = some kl) (hv : R val = some (d, ps)) (hhas : Maps.has D kl = true) :
    ∃ w', (Instr.mapUpdate t (.map (some b)) key val).run P w = .ok () w' ∧ w'.ranges P k R b r n (D.put kl d) left cnt ∧ w.grownBy w' (some b) := by
  have hne := h.ne
  obtain ⟨es, clock, since, seen, c0, hb, F, hs, rfl, hr, hold, rfl, hl1, hl2, hsc, hsk⟩ := h
  obtain ⟨es', clock', hrun, F', hput, _, _, hwho⟩ := Maps.fit_store (R' := R) K ht hb F (Nat.lt_of_le_of_lt hs hn) (fun _ _ _ _ hz => hz) hkey hv
  -- the key is there
  obtain ⟨p, hp, hpk⟩ := List.any_eq_true.1 hhas
  obtain ⟨x0, hx0, hx0k⟩ := List.mem_map.1 (mem_sorted.1 hp)
  obtain ⟨y0, hy0⟩ := F.reads x0 hx0
  have hx0key : x0.key = key := by
    have h1 := rd_key hy0
    have h2 : (rg P k R x0).1 = kl := by rw [hx0k]; exact WideAt.sameKey_eq hpk
    rw [rg_of hy0] at h2
    exact K.inj (h2 ▸ h1) hkey
  rcases K.find w hkey es.toList F.keys with ⟨_, h2⟩ | ⟨j, e0, h1, h2, h3⟩
  · exact absurd hx0key (h2 x0 hx0)
  have hj : es[j]? = some e0 := by simpa using h2
  have hrun2 : (Instr.mapUpdate t (.map (some b)) key val).run P w = .ok () (setBlock w b (.map (es.modify j (fun x => { x with key := key, val := val })) clock)) := by
    simp [Instr.mapUpdate, run_underlying ht, MapKept.run_getObj_map hb, K.check w false hkey, h1, hj, h3, K.stays w hkey, MapKept.run_setObj_map _ hb, Result.andThen, setBlock]
  have heq : some (Obj.map es' clock') = some (Obj.map (es.modify j (fun x => { x with key := key, val := val })) clock) := by
    have e1 : setBlock w b (.map es' clock') = setBlock w b (.map (es.modify j (fun x => { x with key := key, val := val })) clock) := by
      have h9 := hrun.symm.trans hrun2
      injection h9
    rw [← heap_setBlock_same hb (.map es' clock'), e1, heap_setBlock_same hb]
  simp only [Option.some.injEq, Obj.map.injEq] at heq
  obtain ⟨hes, hcl⟩ := heq
  subst hcl
  have hborn : es'.toList.map (·.born) = es.toList.map (·.born) := by
    rw [hes, Array.toList_modify]
    apply List.ext_getElem?
    intro i
    simp only [List.getElem?_map, List.getElem?_modify]
    by_cases hij : j = i
    · subst hij
      cases es.toList[j]? <;> simp
    · simp [hij]
  have hkl : (rg P k R e0).1 = kl := by
    obtain ⟨y, hy⟩ := F.reads e0 (List.mem_of_getElem? h2)
    have m1 := rd_key hy
    rw [h3, hkey] at m1
    rw [rg_of hy]
    exact (Option.some.inj m1).symm
  have hmem : ∀ x ∈ es'.toList, ∃ y ∈ es.toList, (rg P k R x).1 = (rg P k R y).1 ∧ x.born = y.born := by
    intro x hx
    rcases hwho x hx with ⟨hx', _⟩ | ⟨hxk, hxv⟩
    · exact ⟨x, hx', rfl, rfl⟩
    · refine ⟨e0, List.mem_of_getElem? h2, ?_, ?_⟩
      · obtain ⟨y, hy⟩ := F'.reads x hx
        have m1 := rd_key hy
        rw [hxk, hkey] at m1
        rw [rg_of hy, hkl]
        exact (Option.some.inj m1).symm
      · -- the one entry at that key
        have hj' : es'.toList[j]? = some { e0 with key := key, val := val } := by
          rw [hes, Array.toList_modify, List.getElem?_modify]
          simp [h2]
        have := entry_eq_of_key ((stamped_iff es' clock').1 F'.stamped).2.2 hx (List.mem_of_getElem? hj') (by rw [hxk])
        rw [this]
  refine ⟨_, hrun, ⟨es', clock', since, seen, c0, heap_setBlock_same hb _, F', ?_, by rw [DataW.put_eq, hput], (heap_setBlock_other hb _ hne).trans hr, ?_, ?_, ?_, ?_, hsc, hsk⟩, ⟨rfl, rfl, rfl, by simp [setBlock], fun i _ hi => heap_setBlock_other hb _ (fun e => hi (by rw [e]))⟩⟩
  · rw [hes]; simpa using hs
  · intro x hx
    obtain ⟨y, hy, _, hyb⟩ := hmem x hx
    rw [hyb]
    exact hold y hy
  · rw [left_size, left_size, hborn]
  · intro x hx
    obtain ⟨y, hy, hyk, hyb⟩ := hmem x hx
    rw [hyk, hyb]
    exact hl1 y hy
  · intro kl' hkl'
    obtain ⟨y, hy, rfl⟩ := hl2 kl' hkl'
    obtain ⟨i, hi⟩ := List.getElem?_of_mem hy
    by_cases hij : j = i
    · subst hij
      rw [h2] at hi
      cases hi
      refine ⟨{ e0 with key := key, val := val }, List.mem_of_getElem? (i := j) (by rw [hes, Array.toList_modify, List.getElem?_modify]; simp [h2]), ?_⟩
      obtain ⟨z, hz⟩ := F'.reads { e0 with key := key, val := val } (List.mem_of_getElem? (i := j) (by rw [hes, Array.toList_modify, List.getElem?_modify]; simp [h2]))
      have m1 := rd_key hz
      simp only at m1
      rw [hkey] at m1
      rw [rg_of hz, hkl]
      exact (Option.some.inj m1).symm
    · refine ⟨y, List.mem_of_getElem? (i := i) (by rw [hes, Array.toList_modify, List.getElem?_modify]; simp [hij, hi]), rfl⟩

theorem wpList_store_ranges (w : World) {ops : Array Oper} {rest : List Oper} {o : Oper} {a : Act} {Q : Exit → Act → World → Prop}
    (hg : o.guard = none) (m x v : Operand) (t : TypeId) (hop : o.op = Op.mapUpdate t m x v)
    (k e : TypeId) (K : Keyed P k) (ht : P.underlying t = some (.map k e)) (R : Value → Option (DataW H × List MemPlace)) (b r n : Nat) (D : DataW H) (left : Lit → Bool) (cnt : Nat)
    (hm : a.eval m = .map (some b)) (h : w.ranges P k R b r n D left cnt) (hn : n < maxLen) (key val : Value) (kl : Lit) (hx : a.eval x = key) (hv : a.eval v = val) (hkey : keyOf P k key = some kl)
    (d : DataW H) (ps : List MemPlace) (hval : R val = some (d, ps)) (hhas : Maps.has D kl = true)
    (hK : ∀ w', w'.ranges P k R b r n (D.put kl d) left cnt → w.grownBy w' (some b) → wpList P ops Q rest (a.put o.dst undef) w') :
    wpList P ops Q (o :: rest) a w := by
  refine wpList_plain hg fun K' hK' => ?_
  obtain ⟨w', hrun, r1, r2⟩ := ranges_store h K ht hn hkey hval hhas
  unfold Oper.wp
  simp [execOp, hop, hm, hx, hv, hrun, Result.andThen]
  exact hK' _ _ (hK w' r1 r2)
end
end Go.Proofs.YtkcepkehgkkkbabGreatDoor
