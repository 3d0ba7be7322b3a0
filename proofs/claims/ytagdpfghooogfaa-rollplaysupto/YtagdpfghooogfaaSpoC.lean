import Derived.Test.YtagdpfghooogfaaJ11
namespace Go.Proofs.Ytagdpfghooogfaa
open Go.RowKit
set_option linter.unusedVariables false

def mkT (i : Nat) : Value := .string (Utf8.encode (1000 + (i : Int)))
def mkB (i : Nat) : Value := .int .u8 ((3 * (i : Int) + 1) % 256)

theorem take_set_succ {us : List Value} {j : Nat} {x : Value} (h : us.take j = List.replicate j x) (hj : j < us.length) : (us.set j x).take (j + 1) = List.replicate (j + 1) x := by
  rw [List.take_succ_eq_append_getElem (by simpa using hj), List.take_set_of_le (Nat.le_refl _), h, List.getElem_set_self, List.replicate_succ']

theorem mark_step {mk : Nat → Value} {i j : Nat} {L : List En} {v : Value} {us : List Value} (hS : Short L) (hM : Marked mk i L) (hL : L[i]? = some (v, us)) (ht : us.take j = List.replicate j (mk i)) (hj : j < us.length) :
    Short (L.set i (v, us.set j (mk i))) ∧ Marked mk i (L.set i (v, us.set j (mk i))) ∧ (L.set i (v, us.set j (mk i)))[i]? = some (v, us.set j (mk i)) ∧ (us.set j (mk i)).take (j + 1) = List.replicate (j + 1) (mk i) := by
  have hi := (List.getElem?_eq_some_iff.1 hL).1
  refine ⟨fun e he => ?_, fun k e hk hki => ?_, by simp [hi], take_set_succ ht hj⟩
  · rcases List.mem_or_eq_of_mem_set he with he | rfl
    · exact hS e he
    · rw [List.length_set]; exact hS _ (List.mem_of_getElem? hL)
  · rw [List.getElem?_set, if_neg (by omega)] at hk
    exact hM k e hk hki

theorem mark_end {mk : Nat → Value} {i : Nat} {L : List En} {v : Value} {us : List Value} (hM : Marked mk i L) (hL : L[i]? = some (v, us)) (ht : us.take us.length = List.replicate us.length (mk i)) : Marked mk (i + 1) L := by
  intro k e hk hki
  by_cases h : k = i
  · subst h
    rw [hL] at hk
    cases hk
    rw [List.take_length] at ht
    exact ht
  · exact hM k e hk (by omega)

set_option maxHeartbeats 16000000 in
set_option maxRecDepth 1000000 in
theorem spoil_any {w : World} {b : Nat} {vi : Value} {is : List Value} {vt : Value} {ts : List Value} {PI : List En} {PT : List En} {cs : List Comp} (h : Sp w b vi is vt ts [] PI [] PT cs) (hI : PI.length ≤ 10000000) (hT : PT.length ≤ 10000000) (hsI : Short PI) (hsT : Short PT) :
    Calls Try.prog 21 #[.pointer (some ⟨b, 0, none⟩)] w fun e w' => e = .returned (.bool true) ∧ ∃ vi' is' vt' ts', Hid (is'.length = 2 * PI.length ∧ ts'.length = 2 * PT.length ∧ All (bookC b vi' is' vt' ts' ++ cs) w') := by
  obtain ⟨ai, ci, rfl⟩ := owns_form h.rowI
  obtain ⟨at', ct, rfl⟩ := owns_form h.rowT
  have HS := hid h
  have HSI := hid hsI
  have HST := hid hsT
  obtain ⟨n, hn⟩ : ∃ n, Hid (n = is.length ∧ n = PI.length) := ⟨_, hid ⟨rfl, by rw [h.eis]; simp⟩⟩
  obtain ⟨m, hm⟩ : ∃ m, Hid (m = ts.length ∧ m = PT.length) := ⟨_, hid ⟨rfl, by rw [h.ets]; simp⟩⟩
  have hn7 : n ≤ 10000000 := by rw [hn.out.2]; exact hI
  have hm7 : m ≤ 10000000 := by rw [hm.out.2]; exact hT
  rw [← hn.out.1, ← hm.out.1] at HS
  rw [← hn.out.2, ← hm.out.2]
  obtain ⟨iT, hiT, zT0, zT1, zT2⟩ := info_parts Try.info9
  obtain ⟨iB, hiB, zB0, zB1, zB2⟩ := info_parts Try.info5
  obtain ⟨iL, hiL, zL0, zL1, zL2⟩ := info_parts Try.info35
  obtain ⟨iM, hiM, zM0, zM1, zM2⟩ := info_parts Try.info40'
  have c0 := HS.out.cell0
  clear h hI hT hsI hsT
  go_enter Try.func21, Try.ntmps21
  go_wp2
  clear c0
  go_loopw [4] (fun iv wr => ∃ (i : Nat) (L : List En), i ≤ n ∧ iv = .int .i64 (i : Int) ∧ Hid (Sp wr b (.slice ai n ci) is (.slice at' m ct) ts [] L [] PT cs ∧ Short L ∧ Marked mkT i L ∧ L.length = n)) (fun iv _ => n - (intOf iv).toNat)
  case atStart => exact ⟨0, PI, by omega, rfl, hid ⟨HS.out, HSI.out, fun k e _ h0 => absurd h0 (by omega), hn.out.2.symm⟩⟩
  case round =>
    obtain ⟨i, L, hi, rfl, hrel⟩ := hrel
    by_cases hlt : i < n
    · obtain ⟨v, us, he⟩ : ∃ v us, Hid (L[i]? = some (v, us)) := ⟨L[i]'(by rw [hrel.out.2.2.2]; exact hlt) |>.1, L[i]'(by rw [hrel.out.2.2.2]; exact hlt) |>.2, hid (List.getElem?_eq_getElem _)⟩
      have hown : wr.ownsRow 0 9 1 v us.length us := hrel.out.1.ownI (List.mem_of_getElem? he.out)
      obtain ⟨av, cv, rfl⟩ := owns_form hown
      obtain ⟨mu, hmu⟩ : ∃ mu, Hid (mu = us.length) := ⟨_, hid rfl⟩
      have hmu3 : mu ≤ 1000 := by rw [hmu.out]; exact hrel.out.2.1 _ (List.mem_of_getElem? he.out)
      rw [← hmu.out] at he
      have hisv : Hid (is[i]? = some (.slice av mu cv)) := hid (by rw [hrel.out.1.eis]; simp [he.out])
      obtain ⟨G, hG⟩ : ∃ G, Hid (ai = some ⟨G, 0, none⟩) := by
        obtain ⟨G, hG, _⟩ := owns_at hrel.out.1.rowI hisv.out
        exact ⟨G, hid hG⟩
      clear hown
      go_wp2
      go_loopw [5] (fun jv wr2 => ∃ (j : Nat) (L2 : List En) (us2 : List Value), j ≤ mu ∧ jv = .int .i64 (j : Int) ∧ Hid ((Sp wr2 b (.slice ai n ci) is (.slice at' m ct) ts [] L2 [] PT cs ∧ Short L2 ∧ Marked mkT i L2 ∧ L2.length = n) ∧ L2[i]? = some (.slice av mu cv, us2) ∧ us2.length = mu ∧ us2.take j = List.replicate j (mkT i))) (fun jv _ => mu - (intOf jv).toNat)
      case atStart => exact ⟨0, L, us, by omega, rfl, hid ⟨hrel.out, he.out, hmu.out.symm, by simp⟩⟩
      case round =>
        obtain ⟨j, L2, us2, hj, rfl, hrel2⟩ := hrel
        have d0 := hrel2.out.1.1.cell0
        rw [hG.out] at d0
        have d1 : wr.cell? ⟨G, i, none⟩ = some (.slice av mu cv) := by
          obtain ⟨G', hG', h2, _⟩ := owns_at hrel2.out.1.1.rowI hisv.out
          rw [hG.out] at hG'
          simp only [Option.some.injEq, Addr.mk.injEq, and_true] at hG'
          rw [hG']; exact h2
        by_cases hjl : j < mu
        · obtain ⟨u, hu⟩ : ∃ u, us2[j]? = some u := ⟨_, List.getElem?_eq_getElem (by rw [hrel2.out.2.2.1]; exact hjl)⟩
          obtain ⟨g, hg, d2, f2⟩ := owns_at (hrel2.out.1.1.ownI (List.mem_of_getElem? hrel2.out.2.1)) hu
          subst hg
          clear hu
          have ST := hid (mark_step hrel2.out.1.2.1 hrel2.out.1.2.2.1 hrel2.out.2.1 hrel2.out.2.2.2 (by rw [hrel2.out.2.2.1]; exact hjl))
          have SW := hid (hrel2.out.1.1.writeI (k := j) hrel2.out.2.1 (mkT i))
          go_wp2
          go_roundw
          case rel => exact ⟨j + 1, _, _, by omega, by go_num, hid ⟨⟨SW.out, ST.out.1, ST.out.2.1, by rw [List.length_set]; exact hrel2.out.1.2.2.2⟩, ST.out.2.2.1, by rw [List.length_set]; exact hrel2.out.2.2.1, ST.out.2.2.2⟩⟩
          case measure => simp [intOf]; omega
        · have hje : j = mu := by omega
          subst hje
          have ME := hid (mark_end hrel2.out.1.2.2.1 hrel2.out.2.1 (by rw [hrel2.out.2.2.1]; exact hrel2.out.2.2.2))
          go_wp2
          clear d0 d1
          go_roundw
          case rel => exact ⟨i + 1, L2, by omega, by go_num, hid ⟨hrel2.out.1.1, hrel2.out.1.2.1, ME.out, hrel2.out.1.2.2.2⟩⟩
          case measure => simp [intOf]; omega
    · have hie : i = n := by omega
      obtain ⟨LI, hLI⟩ : ∃ LI, Hid (Sp wr b (.slice ai n ci) is (.slice at' m ct) ts [] LI [] PT cs ∧ Short LI ∧ Marked mkT n LI ∧ LI.length = n) := ⟨L, hid (hie ▸ hrel.out)⟩
      clear hrel hie
      have c1 := hLI.out.1.cell1
      have HS2 := hid hLI.out.1
      go_wp2
      clear c1
      go_loopw [7] (fun iv wr => ∃ (i : Nat) (L : List En), i ≤ m ∧ iv = .int .i64 (i : Int) ∧ Hid (Sp wr b (.slice ai n ci) is (.slice at' m ct) ts [] LI [] L cs ∧ Short L ∧ Marked mkB i L ∧ L.length = m)) (fun iv _ => m - (intOf iv).toNat)
      case atStart => exact ⟨0, PT, by omega, rfl, hid ⟨HS2.out, HST.out, fun k e _ h0 => absurd h0 (by omega), hm.out.2.symm⟩⟩
      case round =>
        obtain ⟨i, L, hi, rfl, hrel⟩ := hrel
        by_cases hlt : i < m
        · obtain ⟨v, us, he⟩ : ∃ v us, Hid (L[i]? = some (v, us)) := ⟨L[i]'(by rw [hrel.out.2.2.2]; exact hlt) |>.1, L[i]'(by rw [hrel.out.2.2.2]; exact hlt) |>.2, hid (List.getElem?_eq_getElem _)⟩
          have hown : wr.ownsRow 0 5 1 v us.length us := hrel.out.1.ownT (List.mem_of_getElem? he.out)
          obtain ⟨av, cv, rfl⟩ := owns_form hown
          obtain ⟨mu, hmu⟩ : ∃ mu, Hid (mu = us.length) := ⟨_, hid rfl⟩
          have hmu3 : mu ≤ 1000 := by rw [hmu.out]; exact hrel.out.2.1 _ (List.mem_of_getElem? he.out)
          rw [← hmu.out] at he
          have hisv : Hid (ts[i]? = some (.slice av mu cv)) := hid (by rw [hrel.out.1.ets]; simp [he.out])
          obtain ⟨G, hG⟩ : ∃ G, Hid (at' = some ⟨G, 0, none⟩) := by
            obtain ⟨G, hG, _⟩ := owns_at hrel.out.1.rowT hisv.out
            exact ⟨G, hid hG⟩
          clear hown
          go_wp2
          go_loopw [8] (fun jv wr2 => ∃ (j : Nat) (L2 : List En) (us2 : List Value), j ≤ mu ∧ jv = .int .i64 (j : Int) ∧ Hid ((Sp wr2 b (.slice ai n ci) is (.slice at' m ct) ts [] LI [] L2 cs ∧ Short L2 ∧ Marked mkB i L2 ∧ L2.length = m) ∧ L2[i]? = some (.slice av mu cv, us2) ∧ us2.length = mu ∧ us2.take j = List.replicate j (mkB i))) (fun jv _ => mu - (intOf jv).toNat)
          case atStart => exact ⟨0, L, us, by omega, rfl, hid ⟨hrel.out, he.out, hmu.out.symm, by simp⟩⟩
          case round =>
            obtain ⟨j, L2, us2, hj, rfl, hrel2⟩ := hrel
            have d0 := hrel2.out.1.1.cell1
            rw [hG.out] at d0
            have d1 : wr.cell? ⟨G, i, none⟩ = some (.slice av mu cv) := by
              obtain ⟨G', hG', h2, _⟩ := owns_at hrel2.out.1.1.rowT hisv.out
              rw [hG.out] at hG'
              simp only [Option.some.injEq, Addr.mk.injEq, and_true] at hG'
              rw [hG']; exact h2
            by_cases hjl : j < mu
            · obtain ⟨u, hu⟩ : ∃ u, us2[j]? = some u := ⟨_, List.getElem?_eq_getElem (by rw [hrel2.out.2.2.1]; exact hjl)⟩
              obtain ⟨g, hg, d2, f2⟩ := owns_at (hrel2.out.1.1.ownT (List.mem_of_getElem? hrel2.out.2.1)) hu
              subst hg
              clear hu
              have ST := hid (mark_step hrel2.out.1.2.1 hrel2.out.1.2.2.1 hrel2.out.2.1 hrel2.out.2.2.2 (by rw [hrel2.out.2.2.1]; exact hjl))
              have SW := hid (hrel2.out.1.1.writeT (k := j) hrel2.out.2.1 (mkB i))
              go_wp2
              go_roundw
              case rel => exact ⟨j + 1, _, _, by omega, by go_num, hid ⟨⟨SW.out, ST.out.1, ST.out.2.1, by rw [List.length_set]; exact hrel2.out.1.2.2.2⟩, ST.out.2.2.1, by rw [List.length_set]; exact hrel2.out.2.2.1, ST.out.2.2.2⟩⟩
              case measure => simp [intOf]; omega
            · have hje : j = mu := by omega
              subst hje
              have ME := hid (mark_end hrel2.out.1.2.2.1 hrel2.out.2.1 (by rw [hrel2.out.2.2.1]; exact hrel2.out.2.2.2))
              go_wp2
              clear d0 d1
              go_roundw
              case rel => exact ⟨i + 1, L2, by omega, by go_num, hid ⟨hrel2.out.1.1, hrel2.out.1.2.1, ME.out, hrel2.out.1.2.2.2⟩⟩
              case measure => simp [intOf]; omega
        · have hie : i = m := by omega
          obtain ⟨LT, hLT⟩ : ∃ LT, Hid (Sp wr b (.slice ai n ci) is (.slice at' m ct) ts [] LI [] LT cs ∧ Short LT ∧ Marked mkB m LT ∧ LT.length = m) := ⟨L, hid (hie ▸ hrel.out)⟩
          clear hrel hie
          have HS3 := hid hLT.out.1
          clear HS HS2
          go_wp2
          go_loopw [9] (fun iv wr => ∃ (i : Nat) (xa : Option Addr) (xc : Nat) (xs : List Value) (R : List (En × En)) (P : List En), i ≤ n ∧ iv = .int .i64 (i : Int) ∧ Hid (Sp wr b (.slice xa (n + i) xc) xs (.slice at' m ct) ts R P [] LT cs ∧ (R.length = i ∧ P.length + i = n ∧ xs.length = n + i) ∧ Short P ∧ From mkT i P ∧ Grown mkT R)) (fun iv _ => n - (intOf iv).toNat)
          case atStart => exact ⟨0, ai, ci, is, [], LI, by omega, rfl, hid ⟨HS3.out, ⟨rfl, by rw [hLI.out.2.2.2]; rfl, by rw [← hn.out.1]; rfl⟩, hLI.out.2.1, From.of hLI.out.2.2.1 hLI.out.2.2.2, fun k p hk => by simp at hk⟩⟩
          case round =>
            obtain ⟨i, xa, xc, xs, R, P, hi, rfl, hrel⟩ := hrel
            by_cases hlt : i < n
            · obtain ⟨e, P', rfl⟩ : ∃ e P', P = e :: P' := by
                cases P with
                | nil => have := hrel.out.2.1.2.1; simp at this; omega
                | cons e P' => exact ⟨e, P', rfl⟩
              obtain ⟨v, us⟩ := e
              have hown : wr.ownsRow 0 9 1 v us.length us := hrel.out.1.ownI (e := (v, us)) (by simp)
              obtain ⟨av, cv, rfl⟩ := owns_form hown
              obtain ⟨mu, hmu⟩ : ∃ mu, Hid (mu = us.length) := ⟨_, hid rfl⟩
              have hmu3 : mu ≤ 1000 := by rw [hmu.out]; exact hrel.out.2.2.1 (.slice av us.length cv, us) (by simp)
              rw [← hmu.out] at hrel
              have hisv : Hid (xs[i]? = some (.slice av mu cv)) := hid (by rw [hrel.out.1.eis, List.getElem?_append_right (by simp [hrel.out.2.1.1])]; simp [hrel.out.2.1.1])
              have d0 := hrel.out.1.cell0
              obtain ⟨G, hG, d1, _⟩ := owns_at hrel.out.1.rowI hisv.out
              subst hG
              have OR := hid hrel.out
              have HB := hid hrel.out.1.beginI
              obtain ⟨D, hD⟩ : ∃ D, Hid (D = R.map pC ++ (P'.map (eC 9) ++ (([] : List (En × En)).map pC ++ (LT.map (eC 5) ++ cs)))) := ⟨_, hid rfl⟩
              rw [← hD.out] at HB
              clear hown hrel
              go_wp2
              clear d0 d1
              go_loopw [10, 11] (fun lv jv wr2 => ∃ (j : Nat) (la : Option Addr) (lc : Nat), j ≤ 5 ∧ jv = .int .i64 (j : Int) ∧ lv = .slice la (mu + j) lc ∧ Hid (All (extC 9 (.slice av mu cv) us (.slice la (mu + j) lc) (us ++ List.replicate j (mkT i)) :: (bookC b (.slice (some ⟨G, 0, none⟩) (n + i) xc) xs (.slice at' m ct) ts ++ D)) wr2)) (fun _ jv _ => 5 - (intOf jv).toNat)
              case atStart => exact ⟨0, av, cv, by omega, rfl, rfl, hid (by simpa using HB.out)⟩
              case round =>
                obtain ⟨j, la, lc, hj, rfl, rfl, hrel2⟩ := hrel
                have hlen : Hid ((us ++ List.replicate j (mkT i)).length = mu + j) := hid (by rw [List.length_append, List.length_replicate, ← hmu.out])
                by_cases hjl : j < 5
                · have AA := hid (hrel2.out.alloc (.cells #[mkT i] 9))
                  have hrow : (wr.alloc (.cells #[mkT i] 9)).ownsRow 0 9 1 (.slice la (mu + j) lc) (mu + j) (us ++ List.replicate j (mkT i)) := by
                    have h2 := AA.out.1.2.1.2.1
                    rw [hlen.out] at h2
                    exact h2
                  have hnews : ∀ k u, [mkT i][k]? = some u → (wr.alloc (.cells #[mkT i] 9)).cell? ((⟨wr.heap.size, 0, none⟩ : Addr).add k) = some u := by
                    intro k u hu
                    rw [Addr.add_lit, cell_at (heap_alloc_new wr _)]
                    match k with
                    | 0 => simpa using hu
                    | k + 1 => simp at hu
                  have hone : ∀ u ∈ [mkT i], u.oneCell' = true := by
                    intro u hu
                    simp only [List.mem_cons, List.not_mem_nil, or_false] at hu
                    subst hu
                    rfl
                  go_wp2_with (at_builtin; refine wpList_append_two _ rfl (.tmp 105) (.tmp 110) 35 rfl 9 iT (.string ⟨#[]⟩) 1 16 Try.underlying35 hiT zT0 zT1 zT2 rfl (by decide) _ (mu + j) _ rfl hrow ⟨wr.heap.size, 0, none⟩ 1 1 [mkT i] rfl rfl hnews hone (by decide) (by unfold maxLen; omega) (by omega) ?_)
                  intro g cap w6 ho6 hg6 hat6
                  have A6 := hid (AA.out.ext_append (x := mkT i) (g := g) (cap := cap) (by rw [hlen.out, List.append_assoc]; exact ho6) hg6 (by simpa [mkT] using hat6))
                  rw [hlen.out, List.append_assoc, ← List.replicate_succ'] at A6
                  clear hrow hnews hone ho6 hg6 hat6 AA
                  go_wp2
                  go_roundw
                  case rel => exact ⟨j + 1, some ⟨g, 0, none⟩, cap, by omega, by go_num, rfl, A6⟩
                  case measure => simp [intOf]; omega
                · have hje : j = 5 := by omega
                  subst hje
                  have d0 : wr.cell? ⟨b, 0, none⟩ = some (.slice (some ⟨G, 0, none⟩) (n + i) xc) := by
                    have eb := hrel2.out.blk (g := b) (t := 34) (vs := [.slice (some ⟨G, 0, none⟩) (n + i) xc, .slice at' m ct]) (by simp [bookC])
                    rw [cell_at eb]; rfl
                  have hbl : b < wr.heap.size := World.block_lt_of_cell? wr _ d0
                  have hrow : (wr.alloc (.cells #[.slice la (mu + 5) lc] 35)).ownsRow 0 35 1 (.slice (some ⟨G, 0, none⟩) (n + i) xc) (n + i) xs := by
                    have h2 : (wr.alloc (.cells #[.slice la (mu + 5) lc] 35)).ownsRow 0 35 1 (.slice (some ⟨G, 0, none⟩) (n + i) xc) xs.length xs := ((hrel2.out.alloc (.cells #[.slice la (mu + 5) lc] 35)).mem (c := ownC 35 (.slice (some ⟨G, 0, none⟩) (n + i) xc) xs) (by simp [bookC])).2.1
                    rw [OR.out.2.1.2.2] at h2
                    exact h2
                  have hnews : ∀ k u, [Value.slice la (mu + 5) lc][k]? = some u → (wr.alloc (.cells #[.slice la (mu + 5) lc] 35)).cell? ((⟨wr.heap.size, 0, none⟩ : Addr).add k) = some u := by
                    intro k u hu
                    rw [Addr.add_lit, cell_at (heap_alloc_new wr _)]
                    match k with
                    | 0 => simpa using hu
                    | k + 1 => simp at hu
                  have hone : ∀ u ∈ [Value.slice la (mu + 5) lc], u.oneCell' = true := by
                    intro u hu
                    simp only [List.mem_cons, List.not_mem_nil, or_false] at hu
                    subst hu
                    rfl
                  go_wp2_with (at_builtin; refine wpList_append_own_at _ rfl (.tmp 116) (.tmp 118) 31 rfl 0 35 iL (.slice none 0 0) 1 24 Try.underlying31 hiL zL0 zL1 zL2 rfl (by decide) _ _ _ rfl hrow ⟨wr.heap.size, 0, none⟩ 1 1 [.slice la (mu + 5) lc] rfl rfl hnews hone (by unfold maxLen; omega) (by omega) (by simp) ?_)
                  intro v6 w6 ho6 hg6 _ hat6
                  obtain ⟨k0, f0, A6⟩ := growI hrel2.out (by rw [OR.out.2.1.2.2]; exact ho6) hg6 (by simpa using hat6)
                  obtain ⟨xa', xc', rfl⟩ := owns_form ho6
                  rw [hD.out] at A6
                  have S6 := hid (Sp.endI (e := (.slice av mu cv, us)) A6 OR.out.1.eis OR.out.1.ets rfl)
                  have HG : Hid (Grown mkT (R ++ [((.slice av mu cv, us), (.slice la (mu + 5) lc, us ++ List.replicate 5 (mkT i)))])) := hid (by
                    have hh := OR.out.2.2.2.1.head
                    have hlu : us.length ≤ 1000 := by rw [← hmu.out]; exact hmu3
                    refine OR.out.2.2.2.2.snoc ?_ ?_ (by omega) (by rw [List.length_append, List.length_replicate]; omega)
                    · rw [OR.out.2.1.1]; exact hh
                    · rw [OR.out.2.1.1]; exact repl_more 5 hh)
                  clear hrow hnews hone ho6 hg6 hat6 d0 A6
                  go_wp2
                  clear k0 f0
                  go_roundw
                  case rel =>
                    exact ⟨i + 1, xa', xc', _, _, P', by omega, by go_num, hid ⟨S6.out, ⟨by rw [List.length_append, OR.out.2.1.1]; rfl, by have := OR.out.2.1.2.1; simp at this; omega, by rw [List.length_append, OR.out.2.1.2.2]; rfl⟩, fun x hx => OR.out.2.2.1 x (by simp [hx]), OR.out.2.2.2.1.tail, HG.out⟩⟩
                  case measure => simp [intOf]; omega
            · have hie : i = n := by omega
              have hP : P = [] := by
                have := hrel.out.2.1.2.1
                exact List.eq_nil_of_length_eq_zero (by omega)
              subst hP
              obtain ⟨a0i, c0i, x0, RI, hRI⟩ : ∃ xa xc xs R, Hid (Sp wr b (.slice xa (n + n) xc) xs (.slice at' m ct) ts R [] [] LT cs ∧ R.length = n ∧ xs.length = n + n ∧ Grown mkT R) := ⟨xa, xc, xs, R, hid (by rw [hie] at hrel; exact ⟨hrel.out.1, hrel.out.2.1.1, hrel.out.2.1.2.2, hrel.out.2.2.2.2⟩)⟩
              clear hrel hie
              have HS3 := hid hRI.out.1
              go_wp2
              go_loopw [12] (fun iv wr => ∃ (i : Nat) (xa : Option Addr) (xc : Nat) (xs : List Value) (R : List (En × En)) (P : List En), i ≤ m ∧ iv = .int .i64 (i : Int) ∧ Hid (Sp wr b (.slice a0i (n + n) c0i) x0 (.slice xa (m + i) xc) xs RI [] R P cs ∧ (R.length = i ∧ P.length + i = m ∧ xs.length = m + i) ∧ Short P ∧ From mkB i P ∧ Grown mkB R)) (fun iv _ => m - (intOf iv).toNat)
              case atStart => exact ⟨0, at', ct, ts, [], LT, by omega, rfl, hid ⟨HS3.out, ⟨rfl, by rw [hLT.out.2.2.2]; rfl, by rw [← hm.out.1]; rfl⟩, hLT.out.2.1, From.of hLT.out.2.2.1 hLT.out.2.2.2, fun k p hk => by simp at hk⟩⟩
              case round =>
                obtain ⟨i, xa, xc, xs, R, P, hi, rfl, hrel⟩ := hrel
                by_cases hlt : i < m
                · obtain ⟨e, P', rfl⟩ : ∃ e P', P = e :: P' := by
                    cases P with
                    | nil => have := hrel.out.2.1.2.1; simp at this; omega
                    | cons e P' => exact ⟨e, P', rfl⟩
                  obtain ⟨v, us⟩ := e
                  have hown : wr.ownsRow 0 5 1 v us.length us := hrel.out.1.ownT (e := (v, us)) (by simp)
                  obtain ⟨av, cv, rfl⟩ := owns_form hown
                  obtain ⟨mu, hmu⟩ : ∃ mu, Hid (mu = us.length) := ⟨_, hid rfl⟩
                  have hmu3 : mu ≤ 1000 := by rw [hmu.out]; exact hrel.out.2.2.1 (.slice av us.length cv, us) (by simp)
                  rw [← hmu.out] at hrel
                  have hisv : Hid (xs[i]? = some (.slice av mu cv)) := hid (by rw [hrel.out.1.ets, List.getElem?_append_right (by simp [hrel.out.2.1.1])]; simp [hrel.out.2.1.1])
                  have d0 := hrel.out.1.cell1
                  obtain ⟨G, hG, d1, _⟩ := owns_at hrel.out.1.rowT hisv.out
                  subst hG
                  have OR := hid hrel.out
                  have HB := hid hrel.out.1.beginT
                  obtain ⟨D, hD⟩ : ∃ D, Hid (D = RI.map pC ++ (([] : List En).map (eC 9) ++ (R.map pC ++ (P'.map (eC 5) ++ cs)))) := ⟨_, hid rfl⟩
                  rw [← hD.out] at HB
                  clear hown hrel
                  go_wp2
                  clear d0 d1
                  go_loopw [13, 14] (fun lv jv wr2 => ∃ (j : Nat) (la : Option Addr) (lc : Nat), j ≤ 12 ∧ jv = .int .i64 (j : Int) ∧ lv = .slice la (mu + j) lc ∧ Hid (All (extC 5 (.slice av mu cv) us (.slice la (mu + j) lc) (us ++ List.replicate j (mkB i)) :: (bookC b (.slice a0i (n + n) c0i) x0 (.slice (some ⟨G, 0, none⟩) (m + i) xc) xs ++ D)) wr2)) (fun _ jv _ => 12 - (intOf jv).toNat)
                  case atStart => exact ⟨0, av, cv, by omega, rfl, rfl, hid (by simpa using HB.out)⟩
                  case round =>
                    obtain ⟨j, la, lc, hj, rfl, rfl, hrel2⟩ := hrel
                    have hlen : Hid ((us ++ List.replicate j (mkB i)).length = mu + j) := hid (by rw [List.length_append, List.length_replicate, ← hmu.out])
                    by_cases hjl : j < 12
                    · have AA := hid (hrel2.out.alloc (.cells #[mkB i] 5))
                      have hrow : (wr.alloc (.cells #[mkB i] 5)).ownsRow 0 5 1 (.slice la (mu + j) lc) (mu + j) (us ++ List.replicate j (mkB i)) := by
                        have h2 := AA.out.1.2.1.2.1
                        rw [hlen.out] at h2
                        exact h2
                      have hnews : ∀ k u, [mkB i][k]? = some u → (wr.alloc (.cells #[mkB i] 5)).cell? ((⟨wr.heap.size, 0, none⟩ : Addr).add k) = some u := by
                        intro k u hu
                        rw [Addr.add_lit, cell_at (heap_alloc_new wr _)]
                        match k with
                        | 0 => simpa using hu
                        | k + 1 => simp at hu
                      have hone : ∀ u ∈ [mkB i], u.oneCell' = true := by
                        intro u hu
                        simp only [List.mem_cons, List.not_mem_nil, or_false] at hu
                        subst hu
                        rfl
                      go_wp2_with (at_builtin; refine wpList_append_two _ rfl (.tmp 138) (.tmp 143) 40 rfl 5 iB (.int .u8 0) 1 1 Try.underlying40 hiB zB0 zB1 zB2 rfl (by decide) _ (mu + j) _ rfl hrow ⟨wr.heap.size, 0, none⟩ 1 1 [mkB i] rfl rfl hnews hone (by decide) (by unfold maxLen; omega) (by omega) ?_)
                      intro g cap w6 ho6 hg6 hat6
                      have A6 := hid (AA.out.ext_append (x := mkB i) (g := g) (cap := cap) (by rw [hlen.out, List.append_assoc]; exact ho6) hg6 (by simpa [mkB] using hat6))
                      rw [hlen.out, List.append_assoc, ← List.replicate_succ'] at A6
                      clear hrow hnews hone ho6 hg6 hat6 AA
                      go_wp2
                      go_roundw
                      case rel => exact ⟨j + 1, some ⟨g, 0, none⟩, cap, by omega, by go_num, rfl, A6⟩
                      case measure => simp [intOf]; omega
                    · have hje : j = 12 := by omega
                      subst hje
                      have d0 : wr.cell? ⟨b, 1, none⟩ = some (.slice (some ⟨G, 0, none⟩) (m + i) xc) := by
                        have eb := hrel2.out.blk (g := b) (t := 34) (vs := [.slice a0i (n + n) c0i, .slice (some ⟨G, 0, none⟩) (m + i) xc]) (by simp [bookC])
                        rw [cell_at eb]; rfl
                      have hbl : b < wr.heap.size := World.block_lt_of_cell? wr _ d0
                      have hrow : (wr.alloc (.cells #[.slice la (mu + 12) lc] 40)).ownsRow 0 40 1 (.slice (some ⟨G, 0, none⟩) (m + i) xc) (m + i) xs := by
                        have h2 : (wr.alloc (.cells #[.slice la (mu + 12) lc] 40)).ownsRow 0 40 1 (.slice (some ⟨G, 0, none⟩) (m + i) xc) xs.length xs := ((hrel2.out.alloc (.cells #[.slice la (mu + 12) lc] 40)).mem (c := ownC 40 (.slice (some ⟨G, 0, none⟩) (m + i) xc) xs) (by simp [bookC])).2.1
                        rw [OR.out.2.1.2.2] at h2
                        exact h2
                      have hnews : ∀ k u, [Value.slice la (mu + 12) lc][k]? = some u → (wr.alloc (.cells #[.slice la (mu + 12) lc] 40)).cell? ((⟨wr.heap.size, 0, none⟩ : Addr).add k) = some u := by
                        intro k u hu
                        rw [Addr.add_lit, cell_at (heap_alloc_new wr _)]
                        match k with
                        | 0 => simpa using hu
                        | k + 1 => simp at hu
                      have hone : ∀ u ∈ [Value.slice la (mu + 12) lc], u.oneCell' = true := by
                        intro u hu
                        simp only [List.mem_cons, List.not_mem_nil, or_false] at hu
                        subst hu
                        rfl
                      go_wp2_with (at_builtin; refine wpList_append_own_at _ rfl (.tmp 149) (.tmp 151) 32 rfl 0 40 iM (.slice none 0 0) 1 24 Try.underlying32 hiM zM0 zM1 zM2 rfl (by decide) _ _ _ rfl hrow ⟨wr.heap.size, 0, none⟩ 1 1 [.slice la (mu + 12) lc] rfl rfl hnews hone (by unfold maxLen; omega) (by omega) (by simp) ?_)
                      intro v6 w6 ho6 hg6 _ hat6
                      obtain ⟨k0, f0, A6⟩ := growT hrel2.out (by rw [OR.out.2.1.2.2]; exact ho6) hg6 (by simpa using hat6)
                      obtain ⟨xa', xc', rfl⟩ := owns_form ho6
                      rw [hD.out] at A6
                      have S6 := hid (Sp.endT (e := (.slice av mu cv, us)) A6 OR.out.1.eis OR.out.1.ets rfl)
                      have HG : Hid (Grown mkB (R ++ [((.slice av mu cv, us), (.slice la (mu + 12) lc, us ++ List.replicate 12 (mkB i)))])) := hid (by
                        have hh := OR.out.2.2.2.1.head
                        have hlu : us.length ≤ 1000 := by rw [← hmu.out]; exact hmu3
                        refine OR.out.2.2.2.2.snoc ?_ ?_ (by omega) (by rw [List.length_append, List.length_replicate]; omega)
                        · rw [OR.out.2.1.1]; exact hh
                        · rw [OR.out.2.1.1]; exact repl_more 12 hh)
                      clear hrow hnews hone ho6 hg6 hat6 d0 A6
                      go_wp2
                      clear k0 f0
                      go_roundw
                      case rel =>
                        exact ⟨i + 1, xa', xc', _, _, P', by omega, by go_num, hid ⟨S6.out, ⟨by rw [List.length_append, OR.out.2.1.1]; rfl, by have := OR.out.2.1.2.1; simp at this; omega, by rw [List.length_append, OR.out.2.1.2.2]; rfl⟩, fun x hx => OR.out.2.2.1 x (by simp [hx]), OR.out.2.2.2.1.tail, HG.out⟩⟩
                      case measure => simp [intOf]; omega
                · have hie : i = m := by omega
                  have hP : P = [] := by
                    have := hrel.out.2.1.2.1
                    exact List.eq_nil_of_length_eq_zero (by omega)
                  subst hP
                  obtain ⟨a1i, c1i, x1, RT, hRT⟩ : ∃ xa xc xs R, Hid (Sp wr b (.slice a0i (n + n) c0i) x0 (.slice xa (m + m) xc) xs RI [] R [] cs ∧ R.length = m ∧ xs.length = m + m ∧ Grown mkB R) := ⟨xa, xc, xs, R, hid (by rw [hie] at hrel; exact ⟨hrel.out.1, hrel.out.2.1.1, hrel.out.2.1.2.2, hrel.out.2.2.2.2⟩)⟩
                  clear hrel hie
                  obtain ⟨xR, HF⟩ : ∃ x : Unit, Hid (Sp wr b (.slice a0i (n + n) c0i) x0 (.slice a1i (m + m) c1i) x1 RI [] RT [] cs) := ⟨(), hid hRT.out.1⟩
                  go_wp2
                  go_loopw [15] (fun iv wr => ∃ (k : Nat), k ≤ 2 * n ∧ iv = .int .i64 (k : Int) ∧ Hid (Sp wr b (.slice a0i (n + n) c0i) x0 (.slice a1i (m + m) c1i) x1 RI [] RT [] cs)) (fun iv _ => 2 * n - (intOf iv).toNat)
                  case atStart => exact ⟨0, by omega, rfl, HF⟩
                  case round =>
                    obtain ⟨k, hk, rfl, hrel⟩ := hrel
                    by_cases hlt : k < 2 * n
                    · obtain ⟨u, mx, hu, hmx, hrd⟩ := readI (mk := mkT) (b := b) (vi := .slice a0i (n + n) c0i) (vt := .slice a1i (m + m) c1i) (RI := RI) (RT := RT) (ts := x1) (cs := cs) hRI.out.2.1 hRI.out.2.2.2 hlt HF.out.eis
                      obtain ⟨r, hr⟩ : ∃ r, Hid (r = k % n) := ⟨_, hid rfl⟩
                      rw [← hr.out] at hrd
                      have hr7 : r ≤ 10000000 := by rw [hr.out]; have := Nat.mod_lt k (show 0 < n by omega); omega
                      have hrem : Hid ((k : Int).tmod (n : Int) = (r : Int)) := hid (by rw [hr.out]; rfl)
                      have HU := hid hu
                      have HRD := hid hrd
                      obtain ⟨au, cu, hform, _⟩ := hrd wr hrel.out
                      rw [List.length_replicate] at hform
                      subst hform
                      obtain ⟨G, hG, _⟩ := owns_at hrel.out.rowI hu
                      have HG := hid hG
                      clear hu hrd hG
                      go_wp2
                      go_loopw [16] (fun jv wr2 => ∃ (j : Nat), j ≤ mx ∧ jv = .int .i64 (j : Int) ∧ Hid (Sp wr2 b (.slice a0i (n + n) c0i) x0 (.slice a1i (m + m) c1i) x1 RI [] RT [] cs)) (fun jv _ => mx - (intOf jv).toNat)
                      case atStart => exact ⟨0, by omega, rfl, hrel⟩
                      case round =>
                        obtain ⟨j, hj, rfl, hrel2⟩ := hrel
                        have d0 := hrel2.out.cell0
                        rw [HG.out] at d0
                        have d1 : wr.cell? ⟨G, k, none⟩ = some (.slice au mx cu) := by
                          obtain ⟨G', hG', h2, _⟩ := owns_at hrel2.out.rowI HU.out
                          rw [HG.out] at hG'
                          simp only [Option.some.injEq, Addr.mk.injEq, and_true] at hG'
                          rw [hG']; exact h2
                        by_cases hjl : j < mx
                        · obtain ⟨au', cu', hf', hcell⟩ := HRD.out wr hrel2.out
                          rw [List.length_replicate] at hf'
                          simp only [Value.slice.injEq, true_and] at hf'
                          obtain ⟨rfl, rfl⟩ := hf'
                          obtain ⟨g, hg, d2⟩ := hcell j (mkT r) (by simp [hjl])
                          subst hg
                          have hrm := hrem.out
                          unfold mkT at d2
                          clear hcell
                          go_wp2_with fail
                          go_quiet (fail)
                          go_wp2
                          clear d0 d1 d2
                          go_roundw
                          case rel => exact ⟨j + 1, by omega, by go_num, hid (hrel2.out.drewN _)⟩
                          case measure => simp [intOf]; omega
                        · go_wp2
                          clear d0 d1
                          go_roundw
                          case rel => exact ⟨k + 1, by omega, by go_num, hrel2⟩
                          case measure => simp [intOf]; omega
                    · have HF := hid hrel.out
                      clear hrel
                      go_wp2
                      go_loopw [17] (fun iv wr => ∃ (k : Nat), k ≤ 2 * m ∧ iv = .int .i64 (k : Int) ∧ Hid (Sp wr b (.slice a0i (n + n) c0i) x0 (.slice a1i (m + m) c1i) x1 RI [] RT [] cs)) (fun iv _ => 2 * m - (intOf iv).toNat)
                      case atStart => exact ⟨0, by omega, rfl, HF⟩
                      case round =>
                        obtain ⟨k, hk, rfl, hrel⟩ := hrel
                        by_cases hlt : k < 2 * m
                        · obtain ⟨u, mx, hu, hmx, hrd⟩ := readT (mk := mkB) (b := b) (vi := .slice a0i (n + n) c0i) (vt := .slice a1i (m + m) c1i) (RI := RI) (RT := RT) (is := x0) (cs := cs) hRT.out.2.1 hRT.out.2.2.2 hlt HF.out.ets
                          obtain ⟨r, hr⟩ : ∃ r, Hid (r = k % m) := ⟨_, hid rfl⟩
                          rw [← hr.out] at hrd
                          have hr7 : r ≤ 10000000 := by rw [hr.out]; have := Nat.mod_lt k (show 0 < m by omega); omega
                          have hrem : Hid ((k : Int).tmod (m : Int) = (r : Int)) := hid (by rw [hr.out]; rfl)
                          have HU := hid hu
                          have HRD := hid hrd
                          obtain ⟨au, cu, hform, _⟩ := hrd wr hrel.out
                          rw [List.length_replicate] at hform
                          subst hform
                          obtain ⟨G, hG, _⟩ := owns_at hrel.out.rowT hu
                          have HG := hid hG
                          clear hu hrd hG
                          go_wp2
                          go_loopw [18] (fun jv wr2 => ∃ (j : Nat), j ≤ mx ∧ jv = .int .i64 (j : Int) ∧ Hid (Sp wr2 b (.slice a0i (n + n) c0i) x0 (.slice a1i (m + m) c1i) x1 RI [] RT [] cs)) (fun jv _ => mx - (intOf jv).toNat)
                          case atStart => exact ⟨0, by omega, rfl, hrel⟩
                          case round =>
                            obtain ⟨j, hj, rfl, hrel2⟩ := hrel
                            have d0 := hrel2.out.cell1
                            rw [HG.out] at d0
                            have d1 : wr.cell? ⟨G, k, none⟩ = some (.slice au mx cu) := by
                              obtain ⟨G', hG', h2, _⟩ := owns_at hrel2.out.rowT HU.out
                              rw [HG.out] at hG'
                              simp only [Option.some.injEq, Addr.mk.injEq, and_true] at hG'
                              rw [hG']; exact h2
                            by_cases hjl : j < mx
                            · obtain ⟨au', cu', hf', hcell⟩ := HRD.out wr hrel2.out
                              rw [List.length_replicate] at hf'
                              simp only [Value.slice.injEq, true_and] at hf'
                              obtain ⟨rfl, rfl⟩ := hf'
                              obtain ⟨g, hg, d2⟩ := hcell j (mkB r) (by simp [hjl])
                              subst hg
                              have hrm := hrem.out
                              unfold mkB at d2
                              clear hcell
                              go_wp2_with fail
                              go_quiet (fail)
                              go_wp2
                              clear d0 d1 d2
                              go_roundw
                              case rel => exact ⟨j + 1, by omega, by go_num, hid (hrel2.out.drewN _)⟩
                              case measure => simp [intOf]; omega
                            · go_wp2
                              clear d0 d1
                              go_roundw
                              case rel => exact ⟨k + 1, by omega, by go_num, hrel2⟩
                              case measure => simp [intOf]; omega
                        · have HF := hid hrel.out
                          clear hrel
                          go_wp2
                          go_ret
                          refine ⟨rfl, .slice a0i (n + n) c0i, x0, .slice a1i (m + m) c1i, x1, hid ?_⟩
                          refine ⟨by rw [hRI.out.2.2.1]; omega, by rw [hRT.out.2.2.1]; omega, HF.out.all.sublist ?_⟩
                          refine List.Sublist.append (.refl _) ?_
                          simp only [List.map_nil, List.nil_append]
                          exact (List.sublist_append_right _ _).trans (List.sublist_append_right _ _)
end Go.Proofs.Ytagdpfghooogfaa
