import Derived.Test.YtmpbdncgilahkaaTh
namespace Go.Proofs.Ytmpbdncgilahkaa
open Go.RowKit
set_option linter.unusedVariables false

/-- The three tallies, each with what it holds by now. -/
structure Pt (w : World) (a b : Nat) (wi : List (Option Int)) (wt : List (Option ByteArray)) (f : Rfs) : Prop where
  ta : TalI w a f.n wi
  tb : TalS w b f.n wt
  rf : Rf w f
  nab : a ≠ b
  nar : a ≠ f.r
  nas : a ≠ f.s
  nap : a ≠ f.p
  nbr : b ≠ f.r
  nbs : b ≠ f.s
  nbp : b ≠ f.p

abbrev blk5 (a b : Nat) (f : Rfs) : List Nat := [a, b, f.r, f.s, f.p]

theorem Th.pt {w : World} {t : Tg} (h : Th w t) : Pt w t.a t.b (wsOf t.f) (wsT t.f) t.f := ⟨h.ta, h.tb, h.rf, h.nab, h.nar, h.nas, h.nap, h.nbr, h.nbs, h.nbp⟩
theorem Pt.th {w : World} {t : Tg} (h : Pt w t.a t.b (wsOf t.f) (wsT t.f) t.f) : Th w t := ⟨h.ta, h.tb, h.rf, h.nab, h.nar, h.nas, h.nap, h.nbr, h.nbs, h.nbp⟩

section
variable {w w' : World} {a b : Nat} {wi : List (Option Int)} {wt : List (Option ByteArray)} {f : Rfs}
theorem Pt.one (h : Pt w a b wi wt f) : (1 : Int) ≤ f.n := by have := h.rf.one; omega
theorem Pt.seven (h : Pt w a b wi wt f) : (f.n : Int) ≤ 7 := by have := h.rf.seven; omega
theorem Pt.keep (h : Pt w a b wi wt f) (hk : ∀ k ∈ blk5 a b f, w'.heap[k]? = w.heap[k]?) : Pt w' a b wi wt f :=
  ⟨h.ta.keep (hk _ (by simp)), h.tb.keep (hk _ (by simp)), h.rf.keep (hk _ (by simp)) (hk _ (by simp)) (hk _ (by simp)), h.nab, h.nar, h.nas, h.nap, h.nbr, h.nbs, h.nbp⟩
theorem Pt.lt (h : Pt w a b wi wt f) : ∀ k ∈ blk5 a b f, k < w.heap.size := by
  intro k hk
  simp only [List.mem_cons, List.not_mem_nil, or_false] at hk
  rcases hk with rfl | rfl | rfl | rfl | rfl
  · exact h.ta.lt
  · exact h.tb.lt
  · exact (Array.getElem?_eq_some_iff.1 h.rf.blk).1
  · exact h.rf.ints.lt
  · exact h.rf.bools.lt
theorem Pt.later (h : Pt w a b wi wt f) (hb : Below w.heap.size w w') : Pt w' a b wi wt f := h.keep fun k hk => hb.block k (h.lt k hk)
theorem Pt.drewN (h : Pt w a b wi wt f) (q : Nat) : Pt (w.drewN q) a b wi wt f := h.keep fun _ _ => rfl
theorem Pt.drew (h : Pt w a b wi wt f) : Pt w.drew a b wi wt f := h.keep fun _ _ => rfl

/-- Only a's block has turned. -/
theorem Pt.turnA {wi' : List (Option Int)} (h : Pt w a b wi wt f) (hf : Fr [a] w w') (ht : TalI w' a f.n wi') : Pt w' a b wi' wt f :=
  ⟨ht, h.tb.keep (hf.block _ h.tb.lt (by simpa using h.nab.symm)), h.rf.keep (hf.block _ (h.lt _ (by simp)) (by simpa using h.nar.symm)) (hf.block _ (h.lt _ (by simp)) (by simpa using h.nas.symm)) (hf.block _ (h.lt _ (by simp)) (by simpa using h.nap.symm)), h.nab, h.nar, h.nas, h.nap, h.nbr, h.nbs, h.nbp⟩
theorem Pt.turnB {wt' : List (Option ByteArray)} (h : Pt w a b wi wt f) (hf : Fr [b] w w') (ht : TalS w' b f.n wt') : Pt w' a b wi wt' f :=
  ⟨h.ta.keep (hf.block _ h.ta.lt (by simpa using h.nab)), ht, h.rf.keep (hf.block _ (h.lt _ (by simp)) (by simpa using h.nbr.symm)) (hf.block _ (h.lt _ (by simp)) (by simpa using h.nbs.symm)) (hf.block _ (h.lt _ (by simp)) (by simpa using h.nbp.symm)), h.nab, h.nar, h.nas, h.nap, h.nbr, h.nbs, h.nbp⟩
theorem Pt.turnF {f' : Rfs} (h : Pt w a b wi wt f) (hf : Fr [f.r, f.s, f.p] w w') (ht : Rf w' f') (e1 : f'.r = f.r) (e2 : f'.s = f.s) (e3 : f'.p = f.p) (e4 : f'.n = f.n) : Pt w' a b wi wt f' := by
  have h1 := h.ta.keep (hf.block _ h.ta.lt (by simp [h.nar, h.nas, h.nap]))
  have h2 := h.tb.keep (hf.block _ h.tb.lt (by simp [h.nbr, h.nbs, h.nbp]))
  rw [← e4] at h1 h2
  exact ⟨h1, h2, ht, h.nab, by rw [e1]; exact h.nar, by rw [e2]; exact h.nas, by rw [e3]; exact h.nap, by rw [e1]; exact h.nbr, by rw [e2]; exact h.nbs, by rw [e3]; exact h.nbp⟩
end

section
variable {w : World} {a b : Nat} {wi : List (Option Int)} {wt : List (Option ByteArray)} {f : Rfs}

theorem PAddI {k : Nat} {v : Int} {o : Option Int} (h : Pt w a b wi wt f) (hk : k < f.n) (ho : wi[k]? = some o) : Calls Try.prog 29 #[.pointer (some ⟨a, 0, none⟩), .int .i64 k, .int .i64 v] w fun e w' => e = .returned (.tuple #[.bool (!o.isSome), .int .i64 0]) ∧ Pt w' a b (wi.set k (some v)) wt f ∧ Fr (blk5 a b f) w w' := by
  have h7 := h.rf.seven
  refine (AddI_ok (y := v) h.ta h.one h.seven (by omega) ho).mono ?_
  rintro e w' ⟨he, rfl⟩
  have hf : Fr [a] w ((w.setCell ⟨a, 1 + k * 2, none⟩ (.int .i64 v)).setCell ⟨a, 1 + k * 2 + 1, none⟩ (.bool true)) := ((Fr.refl [a] w).set a _ _ (by simp)).set a _ _ (by simp)
  exact ⟨he, h.turnA hf (h.ta.put (by omega) v), hf.mono (by simp)⟩
theorem PAddS {k : Nat} {v : ByteArray} {o : Option ByteArray} (h : Pt w a b wi wt f) (hk : k < f.n) (ho : wt[k]? = some o) : Calls Try.prog 40 #[.pointer (some ⟨b, 0, none⟩), .int .i64 k, .string v] w fun e w' => e = .returned (.tuple #[.bool (!o.isSome), .int .i64 0]) ∧ Pt w' a b wi (wt.set k (some v)) f ∧ Fr (blk5 a b f) w w' := by
  have h7 := h.rf.seven
  refine (AddS_ok (y := v) h.tb h.one h.seven (by omega) ho).mono ?_
  rintro e w' ⟨he, rfl⟩
  have hf : Fr [b] w ((w.setCell ⟨b, 1 + k * 2, none⟩ (.string v)).setCell ⟨b, 1 + k * 2 + 1, none⟩ (.bool true)) := ((Fr.refl [b] w).set b _ _ (by simp)).set b _ _ (by simp)
  exact ⟨he, h.turnB hf (h.tb.put (by omega) v), hf.mono (by simp)⟩
theorem PAddR {k : Nat} {v : Int} {c : Bool} (h : Pt w a b wi wt f) (hk : k < f.n) (hc : f.spoke[k]? = some c) : Calls Try.prog 42 #[.pointer (some ⟨f.r, 0, none⟩), .int .i64 k, .int .i64 v] w fun e w' => e = .returned (.tuple #[.bool (!c), .int .i64 0]) ∧ Pt w' a b wi wt { f with said := f.said.set k v, spoke := f.spoke.set k true } ∧ Fr (blk5 a b f) w w' := by
  refine (RAdd_ok (v := v) h.rf hk hc).mono ?_
  rintro e w' ⟨he, rfl⟩
  have hf : Fr [f.r, f.s, f.p] w ((w.setCell ⟨f.p, k, none⟩ (.bool true)).setCell ⟨f.s, k, none⟩ (.int .i64 v)) := ((Fr.refl [f.r, f.s, f.p] w).set f.p _ _ (by simp)).set f.s _ _ (by simp)
  exact ⟨he, h.turnF hf ((h.rf.speak k true).say k v) rfl rfl rfl rfl, hf.mono (by simp)⟩
theorem PDropI {k : Nat} {o : Option Int} (h : Pt w a b wi wt f) (hk : k < f.n) (ho : wi[k]? = some o) : Calls Try.prog 45 #[.pointer (some ⟨a, 0, none⟩), .int .i64 k] w fun e w' => e = .returned (.bool o.isSome) ∧ Pt w' a b (wi.set k none) wt f ∧ Fr (blk5 a b f) w w' := by
  have h7 := h.rf.seven
  refine (DropI_ok h.ta h.one h.seven (by omega) ho).mono ?_
  rintro e w' ⟨he, rfl⟩
  have hf : Fr [a] w ((w.setCell ⟨a, 1 + k * 2, none⟩ (.int .i64 0)).setCell ⟨a, 1 + k * 2 + 1, none⟩ (.bool false)) := ((Fr.refl [a] w).set a _ _ (by simp)).set a _ _ (by simp)
  exact ⟨he, h.turnA hf (h.ta.wipe (by omega)), hf.mono (by simp)⟩
theorem PDropS {k : Nat} {o : Option ByteArray} (h : Pt w a b wi wt f) (hk : k < f.n) (ho : wt[k]? = some o) : Calls Try.prog 46 #[.pointer (some ⟨b, 0, none⟩), .int .i64 k] w fun e w' => e = .returned (.bool o.isSome) ∧ Pt w' a b wi (wt.set k none) f ∧ Fr (blk5 a b f) w w' := by
  have h7 := h.rf.seven
  refine (DropS_ok h.tb h.one h.seven (by omega) ho).mono ?_
  rintro e w' ⟨he, rfl⟩
  have hf : Fr [b] w ((w.setCell ⟨b, 1 + k * 2, none⟩ (.string ⟨#[]⟩)).setCell ⟨b, 1 + k * 2 + 1, none⟩ (.bool false)) := ((Fr.refl [b] w).set b _ _ (by simp)).set b _ _ (by simp)
  exact ⟨he, h.turnB hf (h.tb.wipe (by omega)), hf.mono (by simp)⟩
theorem PDropR {k : Nat} {c : Bool} (h : Pt w a b wi wt f) (hk : k < f.n) (hc : f.spoke[k]? = some c) : Calls Try.prog 47 #[.pointer (some ⟨f.r, 0, none⟩), .int .i64 k] w fun e w' => e = .returned (.bool c) ∧ Pt w' a b wi wt { f with spoke := f.spoke.set k false } ∧ Fr (blk5 a b f) w w' := by
  refine (RDrop_ok h.rf hk hc).mono ?_
  rintro e w' ⟨he, hf, hr⟩
  have hf' : Fr [f.r, f.s, f.p] w w' := hf.mono (by simp)
  exact ⟨he, h.turnF hf' hr rfl rfl rfl rfl, hf.mono (by simp)⟩
theorem PClearI (h : Pt w a b wi wt f) : Calls Try.prog 50 #[.pointer (some ⟨a, 0, none⟩)] w fun e w' => e = .returned (.tuple #[]) ∧ Pt w' a b [none, none, none, none, none, none, none] wt f ∧ Fr (blk5 a b f) w w' := by
  refine (ClearI h.ta).mono ?_
  rintro e w' ⟨he, hf, ht⟩
  exact ⟨he, h.turnA hf ht, hf.mono (by simp)⟩
theorem PClearS (h : Pt w a b wi wt f) : Calls Try.prog 51 #[.pointer (some ⟨b, 0, none⟩)] w fun e w' => e = .returned (.tuple #[]) ∧ Pt w' a b wi [none, none, none, none, none, none, none] f ∧ Fr (blk5 a b f) w w' := by
  refine (ClearS h.tb).mono ?_
  rintro e w' ⟨he, hf, ht⟩
  exact ⟨he, h.turnB hf ht, hf.mono (by simp)⟩
theorem PClearR (h : Pt w a b wi wt f) : Calls Try.prog 52 #[.pointer (some ⟨f.r, 0, none⟩)] w fun e w' => e = .returned (.tuple #[]) ∧ Pt w' a b wi wt { f with spoke := List.replicate f.n false } ∧ Fr (blk5 a b f) w w' := by
  refine (RClear h.rf).mono ?_
  rintro e w' ⟨he, hf, hr⟩
  have hf' : Fr [f.r, f.s, f.p] w w' := hf.mono (by simp)
  exact ⟨he, h.turnF hf' hr rfl rfl rfl rfl, hf.mono (by simp)⟩
end
end Go.Proofs.Ytmpbdncgilahkaa
