import Derived.Test.YtkcepkehgkkkbabDoorJ45
namespace Go.Proofs.YtkcepkehgkkkbabDoor
open Go.RowKit
set_option linter.unusedVariables false

/-- An op, as its five cells have it. -/
structure Ov where
  k : Int
  nm : ByteArray
  tx : ByteArray
  n : Int
  m : Int
structure Five (w : World) (g p : Nat) (e : Ov) : Prop where
  c0 : w.cell? ⟨g, p, none⟩ = some (.int .i64 e.k)
  c1 : w.cell? ⟨g, p + 1, none⟩ = some (.string e.nm)
  c2 : w.cell? ⟨g, p + 2, none⟩ = some (.string e.tx)
  c3 : w.cell? ⟨g, p + 3, none⟩ = some (.int .i64 e.n)
  c4 : w.cell? ⟨g, p + 4, none⟩ = some (.int .i64 e.m)
theorem Five.later {w w' : World} {g p : Nat} {e : Ov} (h : Five w g p e) (hg : g < w.heap.size) (hb : Below w.heap.size w w') : Five w' g p e :=
  ⟨cell_under hb hg h.c0, cell_under hb hg h.c1, cell_under hb hg h.c2, cell_under hb hg h.c3, cell_under hb hg h.c4⟩
/-- A list of ops that came in. -/
def OpsAt (w : World) (s : Value) (l : List Ov) : Prop := ∃ ao c, s = .slice ao l.length c ∧ (l = [] ∨ ∃ g o, ao = some ⟨g, o, none⟩ ∧ g < w.heap.size ∧ ∀ j (h : j < l.length), Five w g (o + j * 5) l[j])
theorem OpsAt.form {w : World} {s : Value} {l : List Ov} (h : OpsAt w s l) : ∃ ao c, s = .slice ao l.length c := by obtain ⟨ao, c, e, _⟩ := h; exact ⟨ao, c, e⟩
theorem OpsAt.at {w w' : World} {ao : Option Addr} {n c : Nat} {l : List Ov} (h : OpsAt w (.slice ao n c) l) (hb : Below w.heap.size w w') {j : Nat} (hj : j < l.length) : ∃ g o, ao = some ⟨g, o, none⟩ ∧ g < w'.heap.size ∧ Five w' g (o + j * 5) l[j] := by
  obtain ⟨ao', c', e, hx⟩ := h
  simp only [Value.slice.injEq] at e
  obtain ⟨rfl, _, _⟩ := e
  rcases hx with rfl | ⟨g, o, ea, hg, hcell⟩
  · simp at hj
  · exact ⟨g, o, ea, Nat.lt_of_lt_of_le hg hb.size, (hcell j hj).later hg hb⟩

/-- A shelf without queues. -/
abbrev S0 : St := [none, none, none, none, none, none, none, none]
theorem S0_ok : OkS 0 S0 := by
  have no : ∀ (i : Nat) (q : Qs), S0[i]? ≠ some (some q) := by
    intro i q h
    have : i < 8 := (List.getElem?_eq_some_iff.1 h).1
    obtain rfl | rfl | rfl | rfl | rfl | rfl | rfl | rfl : i = 0 ∨ i = 1 ∨ i = 2 ∨ i = 3 ∨ i = 4 ∨ i = 5 ∨ i = 6 ∨ i = 7 := by omega
    all_goals simp at h
  exact ⟨rfl, fun i q h => absurd h (no i q), fun i j q q' h => absurd h (no i q)⟩
theorem S0_find : findN (stV S0) sQ = -1 := by kernel_rfl
theorem S0_free : findN (stV S0) ⟨#[]⟩ = 0 := by kernel_rfl
theorem kept_first {S' : St} {n m c x j : Int} {items : List ByteArray} {tx : ByteArray} (hk : chkA 1 sQ.size tx.size n m = 0) (hD : Deed S0 sQ tx n m 1 S' c x items j) : c = 0 ∧ Kept 0 S' [] [] := by
  have ok := deed_ok S0_ok (fun i q h => by
    have : i < 8 := (List.getElem?_eq_some_iff.1 h).1
    obtain rfl | rfl | rfl | rfl | rfl | rfl | rfl | rfl : i = 0 ∨ i = 1 ∨ i = 2 ∨ i = 3 ∨ i = 4 ∨ i = 5 ∨ i = 6 ∨ i = 7 := by omega
    all_goals simp at h) hk hD
  generalize hkk : (1 : Int) = kk at hD
  cases hD with
  | make f b h hf hs =>
    rw [S0_free] at hf
    obtain rfl : f = 0 := by omega
    exact ⟨rfl, ok, ⟨_, rfl, ⟨rfl, rfl, rfl, by simp⟩⟩, by simp, by simp⟩
  | there h => exact absurd S0_find h
  | full h hf => rw [S0_free] at hf; omega
  | _ => omega

theorem All.sublist {cs ds : List Comp} {w : World} (hs : ds.Sublist cs) (h : All cs w) : All ds w := by
  induction hs with
  | slnil => exact h
  | cons a _ ih => exact ih h.2.2
  | cons_cons a hs ih => exact ⟨h.1, fun d hd => h.2.1 d (hs.subset hd), ih h.2.2⟩
theorem mid2 (a b : Comp) (L R : List Comp) : (b :: a :: (L ++ R)).Perm (L ++ (a :: b :: R)) := by
  refine (List.Perm.swap _ _ _).trans ?_
  have := (List.perm_append_comm (l₁ := [a, b]) (l₂ := L)).append_right R
  simpa using this

theorem toX {L R : List Comp} {r o a b x : Comp} {w : World} (h : All (L ++ (r :: o :: a :: b :: x :: R)) w) : All (x :: (L ++ (r :: o :: a :: b :: R))) w := by
  have := (List.perm_middle (a := x) (l₁ := L ++ [r, o, a, b]) (l₂ := R))
  refine h.perm ?_
  simpa using this
theorem toX0 {L R : List Comp} {o a b x : Comp} {w : World} (h : All (L ++ (o :: a :: b :: x :: R)) w) : All (x :: (L ++ (o :: a :: b :: R))) w := by
  have := (List.perm_middle (a := x) (l₁ := L ++ [o, a, b]) (l₂ := R))
  refine h.perm ?_
  simpa using this
theorem fromX {L : List Comp} {r o a b x i : Comp} {w : World} (h : All (x :: (L ++ (r :: o :: a :: b :: [i]))) w) : All (L ++ [a, b, x, i]) w := by
  have h1 : All (x :: (L ++ [a, b, i])) w := h.sublist (.cons_cons _ (List.Sublist.append (.refl _) (.cons _ (.cons _ (.refl _)))))
  have p := (List.perm_middle (a := x) (l₁ := L ++ [a, b]) (l₂ := [i])).symm
  refine h1.perm ?_
  simpa using p
theorem fromX0 {L : List Comp} {o a b x i : Comp} {w : World} (h : All (x :: (L ++ (o :: a :: b :: [i]))) w) : All (L ++ [a, b, x, i]) w := by
  have h1 : All (x :: (L ++ [a, b, i])) w := h.sublist (.cons_cons _ (List.Sublist.append (.refl _) (.cons _ (.refl _))))
  have p := (List.perm_middle (a := x) (l₁ := L ++ [a, b]) (l₂ := [i])).symm
  refine h1.perm ?_
  simpa using p

/-- The round's relation. -/
def KRel (w : World) (P X i : Nat) (pa : Option Addr) (pL pc : Nat) (ga : Option Addr) (gL gc : Nat) (wr : World) : Prop :=
  ∃ (S : St) (pushed : List ByteArray) (gl : List (List UInt8 × Int)) (xc xn : Int) (xv : Value), pL = pushed.length ∧ gL = gl.length ∧ Kept i S pushed gl ∧ All (shL P S ++ [ownC 9 (.slice pa pL pc) (txtV pushed), rowG (.slice ga gL gc) gl, blkC X [.int .i64 xc, .int .i64 xn, xv] 30, inC w]) wr

set_option maxHeartbeats 12800000 in
set_option maxRecDepth 1000000 in
theorem keeps_any {w : World} (hT : Tab w) {s : Value} {l : List Ov} (h : OpsAt w s l) (hl : l.length ≤ 4398046511104) :
    Calls Tryd.prog 4 #[s] w fun e w' => e = .returned (.bool true) ∧ Below w.heap.size w w' := by
  obtain ⟨ao, cp, rfl⟩ := h.form
  have HT := hid hT
  have HO := hid h
  obtain ⟨i9, hi9, hz0, hz1, hz2⟩ := info_parts Tryd.info9
  clear h hT
  go_enter Tryd.func4, Tryd.ntmps4
  go_wp2_with fail
  refine (shown_any HT.out).mono ?_
  rintro e w1 ⟨rfl, B1⟩
  have A := hid ((All.came w).later B1)
  clear B1
  go_wp2_with fail
  refine (New_any A.out).mono ?_
  rintro e w2 ⟨P, rfl, A2, _, _⟩
  have A := hid (show All (shL P S0 ++ [inC w]) w2 from A2)
  clear A2
  go_wp2_with fail
  refine (Do_any (tx := emp) (n := 0) (m := 0) S0_ok (by omega) (fun w' h' => HT.out.below (h'.into (by simp))) (by decide +kernel) A.out).mono ?_
  rintro e w3 ⟨S', c, x, items, j, so, sc, rfl, hD, A3⟩
  obtain ⟨hc0, hK⟩ := kept_first (by decide +kernel) hD
  subst hc0
  have A := hid ((A3.addBlk [.int .i64 0, .int .i64 x, .slice so items.length sc] 30).perm (ds := shL P S' ++ (blkC w3.heap.size [.int .i64 0, .int .i64 x, .slice so items.length sc] 30 :: ownC 9 (.slice so items.length sc) (txtV items) :: [inC w])) List.perm_middle.symm)
  have HK := hid hK
  clear A3 hD hK
  generalize hLL : items.length = L at A
  have A := hid (show All (shL P S' ++ [blkC w3.heap.size [.int .i64 0, .int .i64 x, .slice so L sc] 30, inC w]) (w3.alloc (.cells #[.int .i64 0, .int .i64 x, .slice so L sc] 30)) from A.out.sublist (List.Sublist.append (List.Sublist.refl _) (.cons_cons _ (.cons _ (.refl _)))))
  clear hLL
  have A := hid (((A.out.addMade).addMadeG).perm (mid2 _ _ _ _))
  simp only [World.size_alloc] at A
  have A0 := hid (show KRel w P w3.heap.size 0 (some ⟨w3.heap.size + 1, 0, none⟩) 0 0 (some ⟨w3.heap.size + 1 + 1, 0, none⟩) 0 0 _ from ⟨S', [], [], 0, x, _, rfl, rfl, HK.out, A.out⟩)
  clear A HK
  go_wp2
  generalize w3.heap.size = X at *
  go_loopw [7, 8, 9] (fun pv gv iv wr => ∃ (i pL pc gL gc : Nat) (pa ga : Option Addr), pv = .slice pa pL pc ∧ gv = .slice ga gL gc ∧ iv = .int .i64 (i : Int) ∧ i ≤ l.length ∧ Hid (KRel w P X i pa pL pc ga gL gc wr)) (fun _ _ iv _ => l.length - (intOf iv).toNat)
  case atStart => exact ⟨0, 0, 0, 0, 0, _, _, rfl, rfl, rfl, by omega, A0⟩
  case round =>
    obtain ⟨i, pL, pc, gL, gc, pa, ga, rfl, rfl, rfl, hi, HR⟩ := hrel
    clear A0
    obtain ⟨S, pushed, gl, xc, xn, xv, hpL, hgL, hK, hA⟩ := HR.out
    have A := hid hA
    have HK := hid hK
    have HP := hid hpL
    have HG := hid hgL
    clear hA hK hpL hgL HR
    by_cases hlt : i < l.length
    · have el : decide ((i : Int) < (l.length : Int)) = true := by simpa using hlt
      obtain ⟨g, o, ea, hg, F⟩ := HO.out.at (A.out.into (by simp)) hlt
      subst ea
      have i1 : (0 : Int) ≤ (i : Int) := by omega
      have i3 : ¬ (i : Int) < 0 := by omega
      generalize l[i] = ov at F
      obtain ⟨k, nm, tx, n, m⟩ := ov
      have c0 := F.c0
      have c1 := F.c1
      have c2 := F.c2
      have c3 := F.c3
      have c4 := F.c4
      simp only at c0 c1 c2 c3 c4
      clear F
      have HT2 : Hid (∀ w', All (shL P S ++ (blkC wr.heap.size [.int .i64 k, .string nm, .string tx, .int .i64 n, .int .i64 m] 35 :: [ownC 9 (.slice pa pL pc) (txtV pushed), rowG (.slice ga gL gc) gl, blkC X [.int .i64 xc, .int .i64 xn, xv] 30, inC w])) w' → Tab w') := hid (fun w' h' => HT.out.below (h'.into (by simp)))
      have A1 := hid ((A.out.addBlk [.int .i64 k, .string nm, .string tx, .int .i64 n, .int .i64 m] 35).perm (ds := shL P S ++ (blkC wr.heap.size [.int .i64 k, .string nm, .string tx, .int .i64 n, .int .i64 m] 35 :: [ownC 9 (.slice pa pL pc) (txtV pushed), rowG (.slice ga gL gc) gl, blkC X [.int .i64 xc, .int .i64 xn, xv] 30, inC w])) List.perm_middle.symm)
      have hXlt : X < wr.heap.size := (A.out.mem (show blkC X [.int .i64 xc, .int .i64 xn, xv] 30 ∈ _ by simp)).2.2 X (by simp [blkC])
      have hXne : X ≠ wr.heap.size := by omega
      have hXne2 : wr.heap.size ≠ X := by omega
      by_cases hn : nm = sQ
      · have en : (nm.toList == [113]) = true := by rw [hn]; kernel_rfl
        by_cases hk2 : k = 2
        · have e2 : (k == 2) = true := by rw [hk2]; rfl
          clear A1 HT2 hk2 hn
          have AX := hid (A.out.alloc (.cells #[.int .i64 k, .string nm, .string tx, .int .i64 n, .int .i64 m] 35))
          clear A
          go_wp2
          go_roundw
          case rel => exact ⟨i + 1, pL, pc, gL, gc, pa, ga, rfl, rfl, by go_num, by omega, hid ⟨S, pushed, gl, xc, xn, xv, HP.out, HG.out, HK.out.up, AX.out⟩⟩
          case measure => simp [intOf]; omega
        · have e2 : (k == 2) = false := by rw [beq_eq_false_iff_ne]; exact hk2
          have HNN := hid hn
          clear hn
          by_cases hk : chkA k nm.size tx.size n m = 0
          case neg =>
            have HKK := hid hk
            clear hk
            go_wp2_with fail
            refine (Do_bad (P := P) (HT2.out _ A1.out) HKK.out A1.out).mono ?_
            rintro e w3 ⟨rfl, A3⟩
            have hne := HKK.out
            generalize chkA k nm.size tx.size n m = ck at hne ⊢
            have eck : (ck != 0) = true := by simpa using hne
            have A3x := hid (toX0 A3)
            clear hne A3 A1 A HKK HT2 c0 c1 c2 c3 c4
            have r0 := A3x.out.r0
            have r1 := A3x.out.r1
            have r2 := A3x.out.r2
            have g0 := A3x.out.rf 0
            have g1 := A3x.out.rf 1
            have g2 := A3x.out.rf 2
            have AX := hid (A3x.out.setR (.int .i64 0) (.int .i64 0) (.slice none 0 0))
            clear A3x
            go_wp2
            go_roundw
            case rel => exact ⟨i + 1, pL, pc, gL, gc, pa, ga, rfl, rfl, by go_num, by omega, hid ⟨S, pushed, gl, _, _, _, HP.out, HG.out, HK.out.up, fromX0 AX.out⟩⟩
            case measure => simp [intOf]; omega
          have TD := hid (tidy_of A1.out)
          have HKK := hid hk
          clear hk
          go_wp2_with fail
          refine (Do_any HK.out.ok (by omega) HT2.out HKK.out A1.out).mono ?_
          rintro e w3 ⟨S', c, x, items, j, so, sc, rfl, hD, A3⟩
          have A3x := hid (toX A3)
          have HD := hid hD
          clear A3 A1 A HT2 c0 c1 c2 c3 c4 hD
          have r0 := A3x.out.r0
          have r1 := A3x.out.r1
          have r2 := A3x.out.r2
          have g0 := A3x.out.rf 0
          have g1 := A3x.out.rf 1
          have g2 := A3x.out.rf 2
          have hob := A3x.out.blk (g := wr.heap.size) (vs := [.int .i64 k, .string nm, .string tx, .int .i64 n, .int .i64 m]) (t := 35) (by simp)
          have o0 : w3.cell? ⟨wr.heap.size, 0, none⟩ = some (.int .i64 k) := by rw [cell_at hob]; rfl
          have o1 : w3.cell? ⟨wr.heap.size, 1, none⟩ = some (.string nm) := by rw [cell_at hob]; rfl
          have o2 : w3.cell? ⟨wr.heap.size, 2, none⟩ = some (.string tx) := by rw [cell_at hob]; rfl
          have o3 : w3.cell? ⟨wr.heap.size, 3, none⟩ = some (.int .i64 n) := by rw [cell_at hob]; rfl
          have o4 : w3.cell? ⟨wr.heap.size, 4, none⟩ = some (.int .i64 m) := by rw [cell_at hob]; rfl
          clear hob
          by_cases hc : c = 0
          case neg =>
            have HKF := hid (kept_not HK.out HD.out hc)
            have ec : (c != 0) = true := by simpa using hc
            generalize items.length = L at *
            have AX := hid (A3x.out.setR (.int .i64 c) (.int .i64 x) (.slice so L sc))
            clear A3x HD HKK TD hc
            go_wp2
            go_roundw
            case rel => exact ⟨i + 1, pL, pc, gL, gc, pa, ga, rfl, rfl, by go_num, by omega, hid ⟨S', pushed, gl, _, _, _, HP.out, HG.out, HKF.out, fromX AX.out⟩⟩
            case measure => simp [intOf]; omega
          subst hc
          obtain hkk | hkk | hkk | hkk | hkk | hkk | hkk | hkk : k = 1 ∨ k = 2 ∨ k = 3 ∨ k = 4 ∨ k = 5 ∨ k = 6 ∨ k = 7 ∨ k = 8 := by have := chk_small HKK.out; omega
          · subst hkk
            exact absurd rfl (kept_no1 HK.out HNN.out HD.out)
          · exact absurd hkk hk2
          · obtain rfl : k = 3 := hkk
            obtain ⟨hx, hKF⟩ := kept_push HK.out TD.out HKK.out HNN.out HD.out rfl
            have HKF := hid hKF
            have ex : (x != (pL : Int)) = false := by rw [bne_eq_false_iff_eq]; have := HP.out; omega
            have hPL : pL ≤ 4398046511104 := by have h1 := HK.out.pl; have h2 := HP.out; omega
            clear hx hKF
            generalize items.length = L at *
            have AX := hid (A3x.out.setR (.int .i64 0) (.int .i64 x) (.slice so L sc))
            clear A3x HD HKK TD
            have hrow : (((w3.setCell ⟨X, 0, none⟩ (.int .i64 0)).setCell ⟨X, 1, none⟩ (.int .i64 x)).setCell ⟨X, 2, none⟩ (.slice so L sc)).ownsRow 0 9 1 (.slice pa pL pc) pL (txtV pushed) := by
              have h1 : (((w3.setCell ⟨X, 0, none⟩ (.int .i64 0)).setCell ⟨X, 1, none⟩ (.int .i64 x)).setCell ⟨X, 2, none⟩ (.slice so L sc)).ownsRow 0 9 1 (.slice pa pL pc) (txtV pushed).length (txtV pushed) := (AX.out.mem (show ownC 9 (.slice pa pL pc) (txtV pushed) ∈ _ by simp)).2.1
              rw [txtV_length, ← HP.out] at h1
              exact h1
            have hnews : ∀ j u, [Value.string tx][j]? = some u → ((((w3.setCell ⟨X, 0, none⟩ (.int .i64 0)).setCell ⟨X, 1, none⟩ (.int .i64 x)).setCell ⟨X, 2, none⟩ (.slice so L sc)).alloc (.cells #[.string tx] 9)).cell? ((⟨w3.heap.size, 0, none⟩ : Addr).add j) = some u := by
              intro j u hu
              have := news_new (((w3.setCell ⟨X, 0, none⟩ (.int .i64 0)).setCell ⟨X, 1, none⟩ (.int .i64 x)).setCell ⟨X, 2, none⟩ (.slice so L sc)) #[.string tx] 9 j u hu
              simpa [World.setCell] using this
            go_wp2_with (at_builtin; refine wpList_append_own_at _ rfl (.tmp 79) (.tmp 82) 28 rfl 0 9 i9 (.string ⟨#[]⟩) 1 16 Tryd.und28 hi9 hz0 hz1 hz2 rfl (by decide) _ _ _ rfl (hrow.alloc _) ⟨w3.heap.size, 0, none⟩ 1 1 [.string tx] rfl rfl hnews (fun u hu => by simp at hu; subst hu; rfl) (by unfold maxLen; omega) (by omega) (by omega) ?_)
            intro v' w4 hown hgr _ hat
            have A4 := (((fromX AX.out).perm List.perm_middle).alloc (.cells #[.string tx] 9)).ownGrow (vs' := txtV (pushed ++ [tx])) (base := 0) (v' := v') (by
              rw [txtV_length, List.length_append, ← HP.out]
              simpa [txtV] using hown) hgr (by simpa [World.setCell] using hat)
            obtain ⟨pa', pc', rfl⟩ := owns_form hown
            have A4 := hid (A4.perm List.perm_middle.symm)
            clear hown hgr hat hrow hnews AX r0 r1 r2 g0 g1 g2 o0 o1 o2 o3 o4
            go_wp2
            go_roundw
            case rel => exact ⟨i + 1, pL + 1, pc', gL, gc, pa', ga, rfl, rfl, by go_num, by omega, hid ⟨S', pushed ++ [tx], gl, _, _, _, by rw [List.length_append, ← HP.out]; rfl, HG.out, HKF.out, A4.out⟩⟩
            case measure => simp [intOf]; omega
          · obtain rfl : k = 4 := hkk
            have HKF := hid (kept_trim HK.out TD.out HKK.out HNN.out HD.out rfl)
            generalize items.length = L at *
            have AX := hid (A3x.out.setR (.int .i64 0) (.int .i64 x) (.slice so L sc))
            clear A3x HD HKK TD
            go_wp2
            go_roundw
            case rel => exact ⟨i + 1, pL, pc, gL, gc, pa, ga, rfl, rfl, by go_num, by omega, hid ⟨S', pushed, gl, _, _, _, HP.out, HG.out, HKF.out, fromX AX.out⟩⟩
            case measure => simp [intOf]; omega
          · obtain rfl : k = 5 := hkk
            obtain ⟨a, item, hx, hit, hal, htk, hcl, hKF⟩ := kept_take HK.out TD.out HKK.out HNN.out HD.out rfl
            subst hit
            subst hx
            have HKF := hid hKF
            have HCL := hid hcl
            have HTK := hid (show ([item] : List ByteArray) = [] ∨ ∃ b : Nat, ((a : Nat) : Int) = (b : Int) ∧ b + ([item] : List ByteArray).length ≤ pushed.length ∧ (pushed.drop b).take ([item] : List ByteArray).length = [item] from Or.inr ⟨a, rfl, hal, htk⟩)
            have hPL : pushed.length ≤ 4398046511104 := by have h1 := HK.out.pl; omega
            have hGL : gl.length ≤ 4398046511104 := by have h1 := HK.out.gn; omega
            clear hKF hcl hal htk
            have A3x := hid (show All (blkC X [.int .i64 xc, .int .i64 xn, xv] 30 :: (shL P S' ++ (ownC 9 (.slice so 1 sc) (txtV [item]) :: blkC wr.heap.size [.int .i64 5, .string nm, .string tx, .int .i64 n, .int .i64 m] 35 :: ownC 9 (.slice pa pL pc) (txtV pushed) :: rowG (.slice ga gL gc) gl :: [inC w]))) w3 from A3x.out)
            have AX := hid (A3x.out.setR (.int .i64 0) (.int .i64 (a : Int)) (.slice so 1 sc))
            clear A3x HD HKK TD
            go_wp2_with fail
            refine (told_any (items := [item]) (pushed := pushed) 0 (a : Int) (txts_of (e := 9) AX.out (by simp)) (txts_of (e := 9) AX.out (by simp)) (by omega) (by simp) HTK.out).mono ?_
            rintro e w4 ⟨rfl, B4⟩
            have AX := hid (AX.out.later B4)
            clear B4 r0 r1 r2 g0 g1 g2 o0 o1 o2 o3 o4
            have hob := AX.out.blk (g := wr.heap.size) (vs := [.int .i64 5, .string nm, .string tx, .int .i64 n, .int .i64 m]) (t := 35) (by simp)
            have o2 : w4.cell? ⟨wr.heap.size, 2, none⟩ = some (.string tx) := by rw [cell_at hob]; rfl
            clear hob
            have r1 := AX.out.r1
            have AY := hid ((fromX AX.out).perm (ds := rowG (.slice ga gL gc) gl :: (shL P S' ++ [ownC 9 (.slice pa pL pc) (txtV pushed), blkC X [.int .i64 0, .int .i64 (a : Int), .slice so 1 sc] 30, inC w])) (by
              have := List.perm_middle (a := rowG (.slice ga gL gc) gl) (l₁ := shL P S' ++ [ownC 9 (.slice pa pL pc) (txtV pushed)]) (l₂ := [blkC X [.int .i64 0, .int .i64 (a : Int), .slice so 1 sc] 30, inC w])
              simpa using this))
            clear AX
            go_wp2_with fail
            refine (took_any AY.out tx (a : Int) HCL.out hGL).mono ?_
            rintro e w5 ⟨oa, oc, gl', rfl, hg', hgl', A5⟩
            have HKF := hid (HKF.out gl' hg' hgl')
            have A5 := hid (A5.perm (ds := shL P S' ++ [ownC 9 (.slice pa pL pc) (txtV pushed), rowG (.slice oa gl'.length oc) gl', blkC X [.int .i64 0, .int .i64 (a : Int), .slice so 1 sc] 30, inC w]) (by
              have := (List.perm_middle (a := rowG (.slice oa gl'.length oc) gl') (l₁ := shL P S' ++ [ownC 9 (.slice pa pL pc) (txtV pushed)]) (l₂ := [blkC X [.int .i64 0, .int .i64 (a : Int), .slice so 1 sc] 30, inC w])).symm
              simpa using this))
            generalize hGN : gl'.length = gN at A5 ⊢
            have HGN := hid hGN.symm
            clear hGN hg' hgl' AY r1 o2 HCL HTK
            go_wp2
            go_roundw
            case rel => exact ⟨i + 1, pL, pc, gN, oc, pa, oa, rfl, rfl, by go_num, by omega, hid ⟨S', pushed, gl', _, _, _, HP.out, HGN.out, HKF.out, A5.out⟩⟩
            case measure => simp [intOf]; omega
          · obtain rfl : k = 6 := hkk
            obtain ⟨h1, h8, h2, h3, hKF⟩ := kept_read HK.out HKK.out HNN.out HD.out rfl
            have HKF := hid hKF
            have HTK := hid h3
            have H8 := hid h8
            have hPL : pushed.length ≤ 4398046511104 := by have h1 := HK.out.pl; omega
            have AX := hid (A3x.out.setR (.int .i64 0) (.int .i64 x) (.slice so items.length sc))
            clear A3x HD HKK TD hKF h3
            have em : decide (m < (items.length : Int)) = false := by simp; omega
            by_cases hL0 : items.length = 0
            · have e0 : decide (0 < (items.length : Int)) = false := decide_eq_false (by omega)
              have e0n : decide (0 < items.length) = false := decide_eq_false (by omega)
              clear h1 h2 h8 hL0
              go_wp2_with fail
              refine (told_any (items := items) (pushed := pushed) 0 x (txts_of (e := 9) AX.out (by simp)) (txts_of (e := 9) AX.out (by simp)) (by omega) H8.out HTK.out).mono ?_
              rintro e w4 ⟨rfl, B4⟩
              have AX := hid (AX.out.later B4)
              clear B4 r0 r1 r2 g0 g1 g2 o0 o1 o2 o3 o4
              go_wp2
              go_roundw
              case rel => exact ⟨i + 1, pL, pc, gL, gc, pa, ga, rfl, rfl, by go_num, by omega, hid ⟨S', pushed, gl, _, _, _, HP.out, HG.out, HKF.out, fromX AX.out⟩⟩
              case measure => simp [intOf]; omega
            · have e0 : decide (0 < (items.length : Int)) = true := decide_eq_true (by omega)
              have e0n : decide (0 < items.length) = true := decide_eq_true (by omega)
              have exn : decide (x < n) = false := by have := h2 (by omega); simp; omega
              clear h1 h2 h8 hL0
              go_wp2_with fail
              refine (told_any (items := items) (pushed := pushed) 0 x (txts_of (e := 9) AX.out (by simp)) (txts_of (e := 9) AX.out (by simp)) (by omega) H8.out HTK.out).mono ?_
              rintro e w4 ⟨rfl, B4⟩
              have AX := hid (AX.out.later B4)
              clear B4 r0 r1 r2 g0 g1 g2 o0 o1 o2 o3 o4
              go_wp2
              go_roundw
              case rel => exact ⟨i + 1, pL, pc, gL, gc, pa, ga, rfl, rfl, by go_num, by omega, hid ⟨S', pushed, gl, _, _, _, HP.out, HG.out, HKF.out, fromX AX.out⟩⟩
              case measure => simp [intOf]; omega
          · obtain rfl : k = 7 := hkk
            obtain ⟨hx1, hx2, hKF⟩ := kept_count HK.out HNN.out HD.out rfl
            have HKF := hid hKF
            have ex1 : decide ((pL : Int) < x) = false := by have := HP.out; simp; omega
            have ex2 : decide (32 < x) = false := by simp; omega
            clear hKF hx1 hx2
            generalize items.length = L at *
            have AX := hid (A3x.out.setR (.int .i64 0) (.int .i64 x) (.slice so L sc))
            clear A3x HD HKK TD
            go_wp2
            go_roundw
            case rel => exact ⟨i + 1, pL, pc, gL, gc, pa, ga, rfl, rfl, by go_num, by omega, hid ⟨S', pushed, gl, _, _, _, HP.out, HG.out, HKF.out, fromX AX.out⟩⟩
            case measure => simp [intOf]; omega
          · subst hkk
            have hc8 := (chk_8 HKK.out).1
            have hq := HNN.out
            rw [hq] at hc8
            exact absurd hc8 (by decide)
      · have en : (nm.toList == [113]) = false := by
          rw [beq_eq_false_iff_ne]
          intro h2
          exact hn (toList_inj (by rw [h2]; kernel_rfl))
        have HNN := hid hn
        clear hn
        by_cases hk2 : k = 2
        · have e2 : (k == 2) = true := by rw [hk2]; rfl
          clear hk2
          by_cases hk : chkA k nm.size tx.size n m = 0
          case neg =>
            have HKK := hid hk
            clear hk
            go_wp2_with fail
            refine (Do_bad (P := P) (HT2.out _ A1.out) HKK.out A1.out).mono ?_
            rintro e w3 ⟨rfl, A3⟩
            have hne := HKK.out
            generalize chkA k nm.size tx.size n m = ck at hne ⊢
            have eck : (ck != 0) = true := by simpa using hne
            have A3x := hid (toX0 A3)
            clear hne A3 A1 A HKK HT2 c0 c1 c2 c3 c4
            have r0 := A3x.out.r0
            have r1 := A3x.out.r1
            have r2 := A3x.out.r2
            have g0 := A3x.out.rf 0
            have g1 := A3x.out.rf 1
            have g2 := A3x.out.rf 2
            have AX := hid (A3x.out.setR (.int .i64 0) (.int .i64 0) (.slice none 0 0))
            clear A3x
            go_wp2
            go_roundw
            case rel => exact ⟨i + 1, pL, pc, gL, gc, pa, ga, rfl, rfl, by go_num, by omega, hid ⟨S, pushed, gl, _, _, _, HP.out, HG.out, HK.out.up, fromX0 AX.out⟩⟩
            case measure => simp [intOf]; omega
          have TD := hid (tidy_of A1.out)
          have HKK := hid hk
          clear hk
          go_wp2_with fail
          refine (Do_any HK.out.ok (by omega) HT2.out HKK.out A1.out).mono ?_
          rintro e w3 ⟨S', c, x, items, j, so, sc, rfl, hD, A3⟩
          have A3x := hid (toX A3)
          have HD := hid hD
          clear A3 A1 A HT2 c0 c1 c2 c3 c4 hD
          have r0 := A3x.out.r0
          have r1 := A3x.out.r1
          have r2 := A3x.out.r2
          have g0 := A3x.out.rf 0
          have g1 := A3x.out.rf 1
          have g2 := A3x.out.rf 2
          have hob := A3x.out.blk (g := wr.heap.size) (vs := [.int .i64 k, .string nm, .string tx, .int .i64 n, .int .i64 m]) (t := 35) (by simp)
          have o0 : w3.cell? ⟨wr.heap.size, 0, none⟩ = some (.int .i64 k) := by rw [cell_at hob]; rfl
          have o1 : w3.cell? ⟨wr.heap.size, 1, none⟩ = some (.string nm) := by rw [cell_at hob]; rfl
          have o2 : w3.cell? ⟨wr.heap.size, 2, none⟩ = some (.string tx) := by rw [cell_at hob]; rfl
          have o3 : w3.cell? ⟨wr.heap.size, 3, none⟩ = some (.int .i64 n) := by rw [cell_at hob]; rfl
          have o4 : w3.cell? ⟨wr.heap.size, 4, none⟩ = some (.int .i64 m) := by rw [cell_at hob]; rfl
          clear hob
          have HKF := hid (kept_far HK.out TD.out HKK.out HD.out HNN.out)
          generalize items.length = L at *
          have AX := hid (A3x.out.setR (.int .i64 c) (.int .i64 x) (.slice so L sc))
          clear A3x HD HKK TD
          go_wp2
          go_roundw
          case rel => exact ⟨i + 1, pL, pc, gL, gc, pa, ga, rfl, rfl, by go_num, by omega, hid ⟨S', pushed, gl, _, _, _, HP.out, HG.out, HKF.out, fromX AX.out⟩⟩
          case measure => simp [intOf]; omega
        · have e2 : (k == 2) = false := by rw [beq_eq_false_iff_ne]; exact hk2
          clear hk2
          by_cases hk : chkA k nm.size tx.size n m = 0
          case neg =>
            have HKK := hid hk
            clear hk
            go_wp2_with fail
            refine (Do_bad (P := P) (HT2.out _ A1.out) HKK.out A1.out).mono ?_
            rintro e w3 ⟨rfl, A3⟩
            have hne := HKK.out
            generalize chkA k nm.size tx.size n m = ck at hne ⊢
            have eck : (ck != 0) = true := by simpa using hne
            have A3x := hid (toX0 A3)
            clear hne A3 A1 A HKK HT2 c0 c1 c2 c3 c4
            have r0 := A3x.out.r0
            have r1 := A3x.out.r1
            have r2 := A3x.out.r2
            have g0 := A3x.out.rf 0
            have g1 := A3x.out.rf 1
            have g2 := A3x.out.rf 2
            have AX := hid (A3x.out.setR (.int .i64 0) (.int .i64 0) (.slice none 0 0))
            clear A3x
            go_wp2
            go_roundw
            case rel => exact ⟨i + 1, pL, pc, gL, gc, pa, ga, rfl, rfl, by go_num, by omega, hid ⟨S, pushed, gl, _, _, _, HP.out, HG.out, HK.out.up, fromX0 AX.out⟩⟩
            case measure => simp [intOf]; omega
          have TD := hid (tidy_of A1.out)
          have HKK := hid hk
          clear hk
          go_wp2_with fail
          refine (Do_any HK.out.ok (by omega) HT2.out HKK.out A1.out).mono ?_
          rintro e w3 ⟨S', c, x, items, j, so, sc, rfl, hD, A3⟩
          have A3x := hid (toX A3)
          have HD := hid hD
          clear A3 A1 A HT2 c0 c1 c2 c3 c4 hD
          have r0 := A3x.out.r0
          have r1 := A3x.out.r1
          have r2 := A3x.out.r2
          have g0 := A3x.out.rf 0
          have g1 := A3x.out.rf 1
          have g2 := A3x.out.rf 2
          have hob := A3x.out.blk (g := wr.heap.size) (vs := [.int .i64 k, .string nm, .string tx, .int .i64 n, .int .i64 m]) (t := 35) (by simp)
          have o0 : w3.cell? ⟨wr.heap.size, 0, none⟩ = some (.int .i64 k) := by rw [cell_at hob]; rfl
          have o1 : w3.cell? ⟨wr.heap.size, 1, none⟩ = some (.string nm) := by rw [cell_at hob]; rfl
          have o2 : w3.cell? ⟨wr.heap.size, 2, none⟩ = some (.string tx) := by rw [cell_at hob]; rfl
          have o3 : w3.cell? ⟨wr.heap.size, 3, none⟩ = some (.int .i64 n) := by rw [cell_at hob]; rfl
          have o4 : w3.cell? ⟨wr.heap.size, 4, none⟩ = some (.int .i64 m) := by rw [cell_at hob]; rfl
          clear hob
          have HKF := hid (kept_far HK.out TD.out HKK.out HD.out HNN.out)
          generalize items.length = L at *
          have AX := hid (A3x.out.setR (.int .i64 c) (.int .i64 x) (.slice so L sc))
          clear A3x HD HKK TD
          go_wp2
          go_roundw
          case rel => exact ⟨i + 1, pL, pc, gL, gc, pa, ga, rfl, rfl, by go_num, by omega, hid ⟨S', pushed, gl, _, _, _, HP.out, HG.out, HKF.out, fromX AX.out⟩⟩
          case measure => simp [intOf]; omega
    · have el : decide ((i : Int) < (l.length : Int)) = false := by simp; omega
      go_wp2
      go_ret
      exact ⟨rfl, A.out.into (by simp)⟩
end Go.Proofs.YtkcepkehgkkkbabDoor
