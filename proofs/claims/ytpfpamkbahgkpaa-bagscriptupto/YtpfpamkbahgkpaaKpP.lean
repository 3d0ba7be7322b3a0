import Derived.Test.YtpfpamkbahgkpaaSpoil3
namespace Go.Proofs.Ytpfpamkbahgkpaa
open Go.RowKit
set_option linter.unusedVariables false

/-- What is laid by: each list that was handed out, and what it must read as. -/
structure Hd (w : World) (S : Nat) (M : Nat) (cs : List Comp) : Prop where
  ex : ∃ (ov wv : Value) (es : List En), SpA w S ov wv (es.map En.a) (es.map En.m) cs es ∧ es.length ≤ M
theorem Hd.all {w : World} {S M : Nat} {cs : List Comp} (h : Hd w S M cs) : ∃ X, All (X ++ cs) w := by
  obtain ⟨ov, wv, es, A, _⟩ := h.ex
  exact ⟨boxC S ov wv :: slC ov (es.map En.a) :: slC wv (es.map En.m) :: byRs es, by simpa using A.all⟩
theorem Hd.later {w w' : World} {S M : Nat} {cs : List Comp} (h : Hd w S M cs) (hb : Below w.heap.size w w') : Hd w' S M cs := by
  obtain ⟨ov, wv, es, A, hM⟩ := h.ex
  exact ⟨ov, wv, es, ⟨A.all.later hb, A.ea, A.em, A.ok⟩, hM⟩
theorem Hd.perm {w : World} {S M : Nat} {cs ds : List Comp} (h : Hd w S M cs) (p : cs.Perm ds) : Hd w S M ds := by
  obtain ⟨ov, wv, es, A, hM⟩ := h.ex
  exact ⟨ov, wv, es, ⟨A.all.perm (List.Perm.cons _ (List.Perm.cons _ (List.Perm.cons _ (List.Perm.append_left _ p)))), A.ea, A.em, A.ok⟩, hM⟩
theorem Hd.drop {w : World} {S M : Nat} {c : Comp} {cs : List Comp} (h : Hd w S M (c :: cs)) : Hd w S M cs := by
  obtain ⟨ov, wv, es, A, hM⟩ := h.ex
  refine ⟨ov, wv, es, ⟨?_, A.ea, A.em, A.ok⟩, hM⟩
  have h1 : All ((boxC S ov wv :: slC ov (es.map En.a) :: slC wv (es.map En.m) :: byRs es) ++ c :: cs) w := by simpa using A.all
  have := h1.mid
  simpa using this
/-- All parts, the others first. -/
theorem Hd.split {w : World} {S M : Nat} {cs : List Comp} (h : Hd w S M cs) : ∃ X, All (cs ++ X) w ∧ ∀ w' ds, All (ds ++ X) w' → Hd w' S M ds := by
  obtain ⟨ov, wv, es, A, hM⟩ := h.ex
  refine ⟨boxC S ov wv :: slC ov (es.map En.a) :: slC wv (es.map En.m) :: byRs es, ?_, fun w' ds A' => ⟨ov, wv, es, ⟨?_, A.ea, A.em, A.ok⟩, hM⟩⟩
  · have h1 : All ((boxC S ov wv :: slC ov (es.map En.a) :: slC wv (es.map En.m) :: byRs es) ++ cs) w := by simpa using A.all
    exact h1.perm List.perm_append_comm
  · have := A'.perm List.perm_append_comm
    simpa using this
/-- keep. -/
theorem Hd.keep {w : World} {S M : Nat} {lv : Value} {xs : List UInt8} {cs : List Comp} (h : Hd w S M (byC lv xs :: cs)) (hl : xs.length ≤ 1099511627776) (hM : M ≤ 1099511627776) :
    Calls Try.prog 35 #[.pointer (some ⟨S, 0, none⟩), lv] w fun e w' => e = .returned (.tuple #[]) ∧ Hd w' S (M + 1) cs := by
  obtain ⟨ov, wv, es, A, hM2⟩ := h.ex
  have A1 : All (boxC S ov wv :: slC ov (es.map En.a) :: slC wv (es.map En.m) :: byR lv xs :: (byRs es ++ cs)) w := by
    rw [byR_eq]
    exact A.all.perm (List.Perm.cons _ (List.Perm.cons _ (List.Perm.cons _ List.perm_middle)))
  refine (keep_any A1 (by omega) (by rw [List.length_map]; omega) (by rw [List.length_map]; omega)).mono ?_
  rintro e w' ⟨rfl, ov', wv', m, A2⟩
  refine ⟨rfl, ov', wv', es ++ [⟨lv, m, xs, xs⟩], ⟨?_, rfl, rfl, fun x hx => ?_⟩, by rw [List.length_append]; simp; omega⟩
  · rw [List.map_append, List.map_append]
    refine A2.perm (List.Perm.cons _ (List.Perm.cons _ (List.Perm.cons _ ?_)))
    have e1 : byRs (es ++ [⟨lv, m, xs, xs⟩]) = byRs es ++ [byR lv xs, byR m xs] := by simp [byRs]
    rw [e1]
    have := List.perm_append_comm_assoc [byR lv xs, byR m xs] (byRs es) cs
    simpa using this
  · rcases List.mem_append.1 hx with hx | hx
    · exact A.ok x hx
    · obtain rfl := List.mem_singleton.1 hx
      exact ⟨rfl, hl⟩
/-- holds. -/
theorem Hd.holds {w : World} {S M : Nat} {cs : List Comp} (h : Hd w S M cs) (hM : M ≤ 1099511627776) :
    Calls Try.prog 14 #[.pointer (some ⟨S, 0, none⟩)] w fun e w' => e = .returned (.bool true) ∧ Hd w' S M cs := by
  obtain ⟨ov, wv, es, A, hM2⟩ := h.ex
  refine (holds_any A.box A.reads (by omega)).mono ?_
  rintro e w' ⟨rfl, q, rfl⟩
  exact ⟨rfl, h.later (bdN w q)⟩
/-- spoil; then nothing is laid by. -/
theorem Hd.spoil {w : World} {S M : Nat} {cs : List Comp} (h : Hd w S M cs) (hM : M ≤ 1099511627776) :
    Calls Try.prog 15 #[.pointer (some ⟨S, 0, none⟩)] w fun e w' => e = .returned (.bool true) ∧ ∃ ov wv, All (boxC S ov wv :: cs) w' := by
  obtain ⟨ov, wv, es, A, hM2⟩ := h.ex
  refine (spoil_any A (by omega)).mono ?_
  rintro e w' ⟨rfl, ov', wv', es2, -, E⟩
  refine ⟨rfl, ov', wv', ?_⟩
  have A1 : All ([boxC S ov' wv'] ++ slC ov' (es2.map En.a) :: slC wv' (es2.map En.m) :: rdC es2 :: cs) w' := E.all
  have A2 : All ([boxC S ov' wv'] ++ slC wv' (es2.map En.m) :: rdC es2 :: cs) w' := A1.mid
  have A3 : All ([boxC S ov' wv'] ++ rdC es2 :: cs) w' := A2.mid
  exact A3.mid
/-- Nothing is laid by yet. -/
theorem Hd.begin {w : World} {S : Nat} {cs : List Comp} (h : All (boxC S (.slice none 0 0) (.slice none 0 0) :: cs) w) : Hd w S 0 cs := by
  refine ⟨.slice none 0 0, .slice none 0 0, [], ⟨?_, rfl, rfl, fun e he => (by cases he)⟩, by simp⟩
  have nil : ∀ {ds : List Comp}, All ds w → All (slC (.slice none 0 0) [] :: ds) w := fun {ds} h => ⟨⟨slC_good _ _, ⟨rfl, Or.inl ⟨rfl, rfl⟩⟩, fun k hk => by simp [slC, Value.ownBlock] at hk⟩, fun d hd k hk => by simp [slC, Value.ownBlock] at hk, h⟩
  have h1 := nil (nil h)
  exact h1.perm (by
    have := perm_by 4 [[slC (.slice none 0 0) []], [slC (.slice none 0 0) []], [boxC S (.slice none 0 0) (.slice none 0 0)], cs] [2, 0, 1, 3] rfl (by decide)
    simpa [List.getD, byRs] using this)

theorem neg_mark (i : Nat) : (⟨-(i : Int) - 1, 0, 0, 0, 0, none, 0, []⟩ : Pk).cells = [.int .i64 (-(i : Int) - 1), .int .i64 0, .int .i64 0, .int .i64 0, .int .i64 0, .slice none 0 0] := rfl
/-- The marks of a list of packets. -/
def mk1 (i : Nat) : Pk := ⟨-(i : Int) - 1, 0, 0, 0, 0, none, 0, []⟩
def mk100 : Pk := ⟨-100, 0, 0, 0, 0, none, 0, []⟩
def marked (qs : List Pk) (i : Nat) : List Pk := (List.range i).map mk1 ++ qs.drop i
theorem marked_len (qs : List Pk) (i : Nat) (h : i ≤ qs.length) : (marked qs i).length = qs.length := by simp [marked]; omega
theorem marked_set (qs : List Pk) (i : Nat) (h : i < qs.length) : (marked qs i).set i (mk1 i) = marked qs (i + 1) := by
  unfold marked
  have e : qs.drop i = qs[i] :: qs.drop (i + 1) := List.drop_eq_getElem_cons h
  rw [e, List.set_append_right _ _ (by simp), List.range_succ, List.map_append, List.length_map, List.length_range, Nat.sub_self, List.set_cons_zero, List.append_assoc]
  rfl
theorem marked_at (qs : List Pk) (i : Nat) (h : i < qs.length) : (marked qs i)[i]? = some qs[i] := by
  unfold marked
  rw [List.getElem?_append_right (by simp)]
  simp [h]
theorem marked_all (qs more : List Pk) (j : Nat) (h : j < qs.length) : (marked qs qs.length ++ more)[j]? = some (mk1 j) := by
  unfold marked
  rw [List.drop_length, List.append_nil, List.getElem?_append_left (by simpa using h)]
  simp [h]

set_option maxHeartbeats 3200000 in
set_option maxRecDepth 1000000 in
/-- keepPackets. -/
theorem Hd.keepP {w : World} {S M H m : Nat} {qs : List Pk} {cs : List Comp} (h : Hd w S M (pkC (.slice (some ⟨H, 0, none⟩) m m) qs :: (datL qs ++ cs))) (hm : m = qs.length) (hm' : m ≤ 1024) (hl : ∀ q ∈ qs, q.bs.length ≤ 1099511627776) (hM : M + 1024 ≤ 1099511627776) :
    Calls Try.prog 41 #[.pointer (some ⟨S, 0, none⟩), .slice (some ⟨H, 0, none⟩) m m] w fun e w' => e = .returned (.bool true) ∧ Hd w' S (M + m) cs := by
  have HM := hid hm
  have HL := hid hl
  have H0 := hid h
  clear h hl hm
  go_enter Try.func41, Try.ntmps41
  go_wp2
  go_loopw [5] (fun iv wr => ∃ (i : Nat), i ≤ m ∧ iv = .int .i64 (i : Int) ∧ Hid (Hd wr S (M + i) (pkC (.slice (some ⟨H, 0, none⟩) m m) qs :: (datL (qs.drop i) ++ cs)))) (fun iv _ => m - (intOf iv).toNat)
  case atStart => exact ⟨0, by omega, rfl, H0⟩
  case round =>
    clear H0
    obtain ⟨i, hi, rfl, I⟩ := hrel
    by_cases hlt : i < m
    · have hlt' := hlt
      rw [HM.out] at hlt'
      obtain ⟨q, hq⟩ : ∃ q, qs[i]? = some q := ⟨_, List.getElem?_eq_getElem hlt'⟩
      have hqi : qs[i] = q := by rw [List.getElem?_eq_getElem hlt'] at hq; simpa using hq
      have hqm := List.mem_of_getElem? hq
      obtain ⟨X, A1, -⟩ := I.out.split
      obtain ⟨g1, c1, ev, hg1, hrg, -⟩ := row_at (show wr.ownsRow 0 49 6 (.slice (some ⟨H, 0, none⟩) m m) qs.length (flatP qs) from A1.1.2.1) hq
      simp only [Value.slice.injEq, Option.some.injEq, Addr.mk.injEq, and_true] at ev
      obtain ⟨rfl, -, -⟩ := ev
      obtain ⟨s1, s2, s3, s4, s5, s6⟩ := pkAt_of hrg
      have I2 : Hd wr S (M + i) (byC q.D q.bs :: (pkC (.slice (some ⟨H, 0, none⟩) m m) qs :: (datL (qs.drop (i + 1)) ++ cs))) := I.out.perm (by
        rw [List.drop_eq_getElem_cons hlt', hqi]
        exact List.Perm.swap _ _ _)
      have C := hid (show Calls Try.prog 35 #[.pointer (some ⟨S, 0, none⟩), .slice q.ao q.bs.length q.c] wr _ from I2.keep (HL.out q hqm) (by omega))
      have hii : (i : Int) < (m : Int) := by omega
      have hqb := HL.out q hqm
      clear I I2 A1 hq hqi hqm hrg hlt'
      go_wp2_with fail
      refine C.out.mono ?_
      rintro e w2 ⟨rfl, I3⟩
      have I3 := hid I3
      clear C s1 s2 s3 s4 s5 s6 hg1
      go_wp2
      go_roundw
      case rel => exact ⟨i + 1, by omega, by go_num, I3⟩
      case measure => simp [intOf]; omega
    · have him : i = m := by omega
      have I2 := I.out
      rw [him, HM.out, List.drop_length] at I2
      obtain ⟨X, A1, hX⟩ := I2.split
      rw [← HM.out] at A1 hX
      have HX := hid hX
      have A1 : Hid (All (pkC (.slice (some ⟨H, 0, none⟩) m m) (marked qs 0) :: (cs ++ X)) wr) := hid (by simpa [marked] using A1)
      clear I I2 him hX
      go_wp2
      go_loopw [7] (fun iv wz => ∃ (i : Nat), i ≤ m ∧ iv = .int .i64 (i : Int) ∧ Hid (All (pkC (.slice (some ⟨H, 0, none⟩) m m) (marked qs i) :: (cs ++ X)) wz)) (fun iv _ => m - (intOf iv).toNat)
      case atStart => exact ⟨0, by omega, rfl, A1⟩
      case round =>
        clear A1
        obtain ⟨i, hi, rfl, A⟩ := hrel
        by_cases hlt : i < m
        · have hlt' := hlt
          rw [HM.out] at hlt'
          have hml : (marked qs i).length = m := by rw [marked_len _ _ (by omega), HM.out]
          obtain ⟨q, hq⟩ : ∃ q, (marked qs i)[i]? = some q := ⟨_, marked_at qs i hlt'⟩
          obtain ⟨g1, c1, ev, hg1, hrg, hfz⟩ := row_at (show wr.ownsRow 0 49 6 (.slice (some ⟨H, 0, none⟩) m m) (marked qs i).length (flatP (marked qs i)) from A.out.1.2.1) hq
          simp only [Value.slice.injEq, Option.some.injEq, Addr.mk.injEq, and_true] at ev
          obtain ⟨rfl, -, -⟩ := ev
          obtain ⟨s1, s2, s3, s4, s5, s6⟩ := pkAt_of hrg
          have A2 : Hid (All (pkC (.slice (some ⟨H, 0, none⟩) m m) (marked qs (i + 1)) :: (cs ++ X)) (wr.setCells H (i * 6) (mk1 i).cells)) := hid (by
            have A3 : All (rowC 49 6 (.slice (some ⟨H, 0, none⟩) m m) m (flatP (marked qs i)) :: (cs ++ X)) wr := by have := A.out; simp only [pkC, hml] at this; exact this
            have A4 := All.rowSets (mk1 i).cells _ _ (i * 6) A3
            rw [flatP_set _ _ _ (by rw [hml]; exact hlt), marked_set qs i hlt'] at A4
            have hml2 : (marked qs (i + 1)).length = m := by rw [marked_len _ _ (by omega), HM.out]
            simp only [pkC, hml2]
            exact A4)
          rw [set6] at A2
          have hii : (i : Int) < (m : Int) := by omega
          have e1 : (mk1 i).n = -(i : Int) - 1 := rfl
          clear A hrg hml hlt' hq
          go_wp2
          go_roundw
          case rel => exact ⟨i + 1, by omega, by go_num, A2⟩
          case measure => simp [intOf]; omega
        · have him : i = m := by omega
          have A1 : Hid (All (pkC (.slice (some ⟨H, 0, none⟩) m m) (marked qs m ++ List.replicate 0 mk100) :: (cs ++ X)) wr) := hid (by have := A.out; rw [him] at this; simpa using this)
          have hml : (marked qs m).length = m := by rw [marked_len _ _ (by rw [HM.out]; exact Nat.le_refl _), HM.out]
          have ML := hid hml
          have hread : ∀ (j i : Nat), i < m → (marked qs m ++ List.replicate j mk100)[i]? = some (mk1 i) := fun j i hi => by
            rw [HM.out]; exact marked_all qs _ i (by rw [← HM.out]; exact hi)
          have HR := hid hread
          clear A him hml hread
          go_wp2
          go_loopw [1, 8] (fun lv iv wz => ∃ (j : Nat) (oa : Option Addr) (oc : Nat), j ≤ 12 ∧ lv = .slice oa (m + j) oc ∧ iv = .int .i64 (j : Int) ∧ Hid (All (pkC (.slice oa (m + j) oc) (marked qs m ++ List.replicate j mk100) :: (cs ++ X)) wz)) (fun _ iv _ => 12 - (intOf iv).toNat)
          case atStart => exact ⟨0, some ⟨H, 0, none⟩, m, by omega, rfl, rfl, A1⟩
          case round =>
            clear A1
            obtain ⟨j, oa, oc, hj, rfl, rfl, A⟩ := hrel
            by_cases hlt : j < 12
            · have hjj : (j : Int) < 12 := by omega
              have hll : (marked qs m ++ List.replicate j mk100).length = m + j := by rw [List.length_append, ML.out, List.length_replicate]
              obtain ⟨a3, k3, w3, hrun, A3⟩ := app_one (W := wr.alloc (.cells mk100.cells.toArray 49)) (K := wr.heap.size) (x := mk100) (A.out.alloc _) (heap_alloc_new wr _) (by rw [hll]; omega)
              rw [hll] at hrun A3
              have A2 : Hid (All (pkC (.slice a3 (m + (j + 1)) k3) (marked qs m ++ List.replicate (j + 1) mk100) :: (cs ++ X)) w3) := hid (by
                rw [List.replicate_succ', ← List.append_assoc]; exact A3)
              have RR := hid hrun
              clear A A3 hll hrun
              go_wp2_with (at_builtin; refine wpList_append_run rfl _ _ 39 rfl _ _ _ _ rfl rfl RR.out ?_)
              go_roundw
              case rel => exact ⟨j + 1, a3, k3, by omega, rfl, by go_num, A2⟩
              case measure => simp [intOf]; omega
            · have hjj : ¬ (j : Int) < 12 := by omega
              go_wp2
              go_loopw [9] (fun iv wz => ∃ (i : Nat), i ≤ m ∧ iv = .int .i64 (i : Int) ∧ Hid (All (pkC (.slice oa (m + j) oc) (marked qs m ++ List.replicate j mk100) :: (cs ++ X)) wz)) (fun iv _ => m - (intOf iv).toNat)
              case atStart => exact ⟨0, by omega, rfl, A⟩
              case round =>
                clear A
                obtain ⟨i, hi, rfl, A⟩ := hrel
                by_cases hlt : i < m
                · have hii : (i : Int) < (m : Int) := by omega
                  obtain ⟨g1, c1, ev, hg1, hrg, -⟩ := row_at (show wr.ownsRow 0 49 6 (.slice oa (m + j) oc) (marked qs m ++ List.replicate j mk100).length (flatP (marked qs m ++ List.replicate j mk100)) from A.out.1.2.1) (HR.out j i hlt)
                  simp only [Value.slice.injEq] at ev
                  obtain ⟨rfl, -, -⟩ := ev
                  obtain ⟨s1, s2, s3, s4, s5, s6⟩ := pkAt_of hrg
                  have e1 : (mk1 i).n = -(i : Int) - 1 := rfl
                  rw [e1] at s1
                  have b1 : ((-(i : Int) - 1) != (-(i : Int) - 1)) = false := by simp
                  clear hrg s2 s3 s4 s5 s6 e1
                  go_wp2
                  go_roundw
                  case rel => exact ⟨i + 1, by omega, by go_num, A⟩
                  case measure => simp [intOf]; omega
                · go_wp2
                  go_ret
                  exact ⟨rfl, HX.out _ _ A.out.tail⟩
end Go.Proofs.Ytpfpamkbahgkpaa
