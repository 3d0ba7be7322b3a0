import Derived.Test.YthnccpbgccmapaaDoorAsk
import Derived.Test.YthnccpbgccmapaaDoorToldLaw
namespace Go.Proofs.YthnccpbgccmapaaDoor
open Go.RowKit
set_option linter.unusedVariables false

theorem held_new {cs : List Comp} {w : World} (h : All cs w) : All (boxC w.heap.size (.slice none 0 0) (.slice none 0 0) :: slC (.slice none 0 0) [] :: slC (.slice none 0 0) [] :: cs) (w.alloc (.cells #[.slice none 0 0, .slice none 0 0] 48)) := by
  have h0 := h.alloc (.cells #[.slice none 0 0, .slice none 0 0] 48)
  have n0 : (w.alloc (.cells #[.slice none 0 0, .slice none 0 0] 48)).ownsRow 0 22 1 (.slice none 0 0) 0 [] := ⟨by simp, Or.inl ⟨rfl, rfl⟩⟩
  have h1 : All (slC (.slice none 0 0) [] :: cs) (w.alloc (.cells #[.slice none 0 0, .slice none 0 0] 48)) := h0.add (Fr.refl _ _) (slC_good _ _) n0 (fun k hk => by simp [slC, Value.ownBlock] at hk)
  have h2 := h1.add (c := slC (.slice none 0 0) []) (Fr.refl _ _) (slC_good _ _) n0 (fun k hk => by simp [slC, Value.ownBlock] at hk)
  refine ⟨⟨boxC_good _ _ _, heap_alloc_new w _, fun k hk => by simp [boxC] at hk; subst hk; simp⟩, fun d hd k hk hkd => ?_, h2⟩
  have hk' : k = w.heap.size := by simpa [boxC] using hk
  subst hk'
  rcases List.mem_cons.1 hd with rfl | hd
  · simp [slC, Value.ownBlock] at hkd
  rcases List.mem_cons.1 hd with rfl | hd
  · simp [slC, Value.ownBlock] at hkd
  · have := (h.mem hd).2.2 _ hkd
    omega

/-- The shelf, and what came in. -/
def sh (S : Nat) (ov wv : Value) (es : List En) (w0 : World) : List Comp := boxC S ov wv :: slC ov (es.map En.a) :: slC wv (es.map En.m) :: rdC es :: [inC w0]

theorem sh_of {S : Nat} {ov wv av : Value} {es : List En} {w0 w : World} {X : List UInt8} (h : SpE w S ov wv [rowC av X, inC w0] es) : All (rowC av X :: sh S ov wv es w0) w :=
  h.all.perm (List.perm_middle (a := rowC av X) (l₁ := [boxC S ov wv, slC ov (es.map En.a), slC wv (es.map En.m), rdC es]) (l₂ := [inC w0]))

theorem sp_of {S : Nat} {ov wv av : Value} {es : List En} {w0 w : World} {X : List UInt8} (h : All (rowC av X :: sh S ov wv es w0) w) (ok : ∀ e ∈ es, e.la = e.lm ∧ e.la.length ≤ 2199023255552) : SpE w S ov wv [rowC av X, inC w0] es :=
  ⟨h.perm (List.perm_middle (a := rowC av X) (l₁ := [boxC S ov wv, slC ov (es.map En.a), slC wv (es.map En.m), rdC es]) (l₂ := [inC w0])).symm, ok⟩

theorem sh_in {S : Nat} {ov wv av : Value} {es : List En} {w0 w : World} {X : List UInt8} (h : All (rowC av X :: sh S ov wv es w0) w) : Below w0.heap.size w0 w := h.inB (by simp [sh])

/-- One byte of the lent list is written. -/
theorem sh_set {g n cap k : Nat} {cs : List Comp} {w : World} {X : List UInt8} (h : All (rowC (.slice (some ⟨g, 0, none⟩) n cap) (behind X 8) :: cs) w) (hn : n = X.length + 8) (hk : k < X.length) :
    w.cell? ⟨g, k, none⟩ = some (.int .u8 ((X.getD k 0).toNat : Int)) ∧ w.frozen? ⟨g, k, none⟩ = false ∧ ∀ x : UInt8, All (rowC (.slice (some ⟨g, 0, none⟩) n cap) (behind (X.set k x) 8) :: cs) (w.setCell ⟨g, k, none⟩ (.int .u8 (x.toNat : Int))) := by
  have ho : w.ownsRow 0 5 1 (.slice (some ⟨g, 0, none⟩) n cap) (behind X 8).length (cellsB (behind X 8)) := h.1.2.1
  obtain ⟨q1, q2, _, _⟩ := owns_set ho k (by rw [behind_len]; omega)
  refine ⟨?_, q2, fun x => ?_⟩
  · rw [q1, behind_low X k hk]
  · have := h.row_set (k := k) x (by rw [behind_len]; exact hn)
    rw [behind_set X k hk] at this
    exact this

theorem behind_low' (X : List UInt8) (k : Nat) (h : k < X.length) : (behind X 8).getD k 0 = X.getD k 0 := behind_low X k h

theorem two_keep {S : Nat} {ov wv x y mx my : Value} {W : List UInt8} {cs : List Comp} {w : World} (hW : W.length ≤ 65549) (h : All (boxC S ov wv :: slC ov ([] ++ [x] ++ [y]) :: slC wv ([] ++ [mx] ++ [my]) :: rowC y W :: rowC my W :: rowC x W :: rowC mx W :: cs) w) :
    SpA w S ov wv [x, y] [mx, my] cs [⟨x, mx, W, W⟩, ⟨y, my, W, W⟩] := by
  refine ⟨?_, rfl, rfl, fun e he => ?_⟩
  · refine h.perm ?_
    show List.Perm _ (boxC S ov wv :: slC ov [x, y] :: slC wv [mx, my] :: rowC x W :: rowC mx W :: rowC y W :: rowC my W :: cs)
    refine List.Perm.cons _ (List.Perm.cons _ (List.Perm.cons _ ?_))
    exact (List.perm_append_comm (l₁ := [rowC y W, rowC my W]) (l₂ := [rowC x W, rowC mx W])).append_right cs
  · simp only [List.mem_cons, List.not_mem_nil, or_false] at he
    rcases he with rfl | rfl <;> exact ⟨rfl, by show W.length ≤ _; omega⟩

set_option maxHeartbeats 12800000 in
set_option maxRecDepth 1000000 in
theorem right_any {w : World} {s : Value} {l : List UInt8} (o : Bool) (hT : Tab w) (h : Reads w s l) (hlen : l.length ≤ 140737488351232) :
    Calls Tryd.prog 14 #[.bool o, s] w fun e w' => e = .returned (.bool true) ∧ Below w.heap.size w w' := by
  obtain ⟨ao, c, hf⟩ := h.form
  subst hf
  have HT := hid hT
  have HH := hid h
  have hWl := ans_len o l
  obtain ⟨W, we, hans0⟩ : ∃ W we, ans o l = (W, we) := ⟨_, _, rfl⟩
  rw [hans0] at hWl
  have hans := hid hans0
  have hne : ((we : Int) != (we : Int)) = false := by simp
  clear hT h hans0
  go_enter Tryd.func14, Tryd.ntmps14
  go_wp2_with fail
  refine (doc_any o HH.out hlen).mono ?_
  rintro e w1 ⟨v1, rfl, ho, hb⟩
  rw [hans.out] at ho ⊢
  have A1 := hid ((All.came w).addRow hb ho)
  obtain ⟨x1, y1, hv⟩ := owns_form ho
  subst hv
  clear ho hb
  go_wp2_with fail
  refine (lent_any (HH.out.below (A1.out.inB (by simp))) hlen).mono ?_
  rintro e w2 ⟨v2, rfl, ho, hb⟩
  have A2 := hid (A1.out.addRow hb ho)
  obtain ⟨g, cap, hv, hcap, _, _⟩ := owns_some ho (by rw [behind_len]; omega)
  subst hv
  rw [behind_len] at hcap A2 ⊢
  clear ho hb A1
  go_wp2_with fail
  refine (ask_any o (HT.out.below (A2.out.inB (by simp))) (Reads.of_owns (A2.out.rowR (v := .slice (some ⟨g, 0, none⟩) (l.length + 8) cap) (l := behind l 8) (by simp))).front hlen).mono ?_
  rintro e w3 ⟨v3, rfl, ho, hb⟩
  rw [hans.out] at ho ⊢
  have A3 := hid (A2.out.addRow hb ho)
  obtain ⟨x3, y3, hv⟩ := owns_form ho
  subst hv
  clear ho hb A2
  go_wp2_with fail
  refine (ask_any o (HT.out.below (A3.out.inB (by simp))) (Reads.of_owns (A3.out.rowR (v := .slice (some ⟨g, 0, none⟩) (l.length + 8) cap) (l := behind l 8) (by simp))).front hlen).mono ?_
  rintro e w4 ⟨v4, rfl, ho, hb⟩
  rw [hans.out] at ho ⊢
  have A4 := hid (A3.out.addRow hb ho)
  obtain ⟨x4, y4, hv⟩ := owns_form ho
  subst hv
  clear ho hb A3
  simp only [] at A4 ⊢
  go_wp2_with fail
  refine (same_q (l := W) (Reads.of_owns (A4.out.rowR (by simp))) (Reads.of_owns (A4.out.rowR (by simp))) (by omega)).mono ?_
  rintro e w5 ⟨rfl, q5, hw5⟩
  have A5 := hid (A4.out.drewN q5)
  rw [← hw5] at A5
  clear A4 hw5
  go_wp2_with fail
  refine (same_q (l := W) (Reads.of_owns (A5.out.rowR (by simp))) (Reads.of_owns (A5.out.rowR (by simp))) (by omega)).mono ?_
  rintro e w6 ⟨rfl, q6, hw6⟩
  have A6 := hid (A5.out.drewN q6)
  rw [← hw6] at A6
  clear A5 hw6
  go_wp2_with fail
  refine (still_any (l := l) (Reads.of_owns (A6.out.rowR (v := .slice (some ⟨g, 0, none⟩) (l.length + 8) cap) (l := behind l 8) (by simp))) (HH.out.below (A6.out.inB (by simp))) hlen).mono ?_
  rintro e w7 ⟨rfl, q7, hw7⟩
  have A7 := hid (A6.out.drewN q7)
  rw [← hw7] at A7
  clear A6 hw7
  have hw8 : ∃ w8, w8 = w7 := ⟨_, rfl⟩
  obtain ⟨w8, hw8⟩ := hw8
  rw [← hw8] at A7 ⊢
  clear hw8
  have K0 := hid (held_new A7.out)
  have S0 : ∃ S, S = w8.heap.size := ⟨_, rfl⟩
  obtain ⟨S, hS⟩ := S0
  have KP0 := hid (show All (boxC S (.slice none 0 0) (.slice none 0 0) :: slC (.slice none 0 0) [] :: slC (.slice none 0 0) [] :: rowC (.slice x3 W.length y3) W :: rowC (.slice x4 W.length y4) W :: [rowC (.slice (some ⟨g, 0, none⟩) (l.length + 8) cap) (behind l 8), inC w]) (w8.alloc (.cells #[.slice none 0 0, .slice none 0 0] 48)) from by
    have := K0.out
    rw [← hS] at this
    have p : (boxC S (.slice none 0 0) (.slice none 0 0) :: slC (.slice none 0 0) [] :: slC (.slice none 0 0) [] :: rowC (.slice x4 W.length y4) W :: rowC (.slice x3 W.length y3) W :: rowC (.slice (some ⟨g, 0, none⟩) (l.length + 8) cap) (behind l 8) :: rowC (.slice x1 W.length y1) W :: [inC w]).Perm (rowC (.slice x1 W.length y1) W :: boxC S (.slice none 0 0) (.slice none 0 0) :: slC (.slice none 0 0) [] :: slC (.slice none 0 0) [] :: rowC (.slice x3 W.length y3) W :: rowC (.slice x4 W.length y4) W :: [rowC (.slice (some ⟨g, 0, none⟩) (l.length + 8) cap) (behind l 8), inC w]) := by
      refine (List.perm_middle (a := rowC (.slice x1 W.length y1) W) (l₁ := [boxC S (.slice none 0 0) (.slice none 0 0), slC (.slice none 0 0) [], slC (.slice none 0 0) [], rowC (.slice x4 W.length y4) W, rowC (.slice x3 W.length y3) W, rowC (.slice (some ⟨g, 0, none⟩) (l.length + 8) cap) (behind l 8)]) (l₂ := [inC w])).trans ?_
      refine List.Perm.cons _ (List.Perm.cons _ (List.Perm.cons _ (List.Perm.cons _ ?_)))
      exact List.Perm.swap _ _ _
    exact (this.perm p).tail)
  rw [← hS] at K0
  have HS := hid hS
  clear hS K0 A7
  go_wp2_with fail
  rw [← HS.out]
  refine (keep_any KP0.out (by omega) (by simp) (by simp)).mono ?_
  rintro e w9 ⟨rfl, ov1, wv1, m1, hk1⟩
  have KP1 := hid (show All (boxC S ov1 wv1 :: slC ov1 ([] ++ [.slice x3 W.length y3]) :: slC wv1 ([] ++ [m1]) :: rowC (.slice x4 W.length y4) W :: rowC (.slice x3 W.length y3) W :: rowC m1 W :: [rowC (.slice (some ⟨g, 0, none⟩) (l.length + 8) cap) (behind l 8), inC w]) w9 from by
    refine hk1.perm (List.Perm.cons _ (List.Perm.cons _ (List.Perm.cons _ ?_)))
    exact List.perm_middle (a := rowC (.slice x4 W.length y4) W) (l₁ := [rowC (.slice x3 W.length y3) W, rowC m1 W]))
  clear hk1 KP0
  go_wp2_with fail
  refine (keep_any KP1.out (by omega) (by simp) (by simp)).mono ?_
  rintro e w10 ⟨rfl, ov2, wv2, m2, hk2⟩
  have SPA := hid (two_keep hWl hk2)
  clear hk2 KP1
  go_wp2_with fail
  refine (spoil_any SPA.out (by simp)).mono ?_
  rintro e w11 ⟨rfl, ov3, wv3, es, hes, hsp⟩
  have A11 := hid (sh_of hsp)
  have OK := hid hsp.ok
  have hel : es.length ≤ 1099511627776 := by rw [hes]; simp
  clear hsp hes SPA
  go_wp2_with fail
  refine (still_any (l := l) (Reads.of_owns (A11.out.rowR (v := .slice (some ⟨g, 0, none⟩) (l.length + 8) cap) (l := behind l 8) (by simp))) (HH.out.below (sh_in A11.out)) hlen).mono ?_
  rintro e w12 ⟨rfl, q12, hw12⟩
  have A12 := hid (A11.out.drewN q12)
  rw [← hw12] at A12
  clear A11 hw12
  go_wp2
  go_loopw [13] (fun iv wr => ∃ k : Nat, k ≤ l.length ∧ iv = .int .i64 (k : Int) ∧ Hid (All (rowC (.slice (some ⟨g, 0, none⟩) (l.length + 8) cap) (behind (flipK l k) 8) :: sh S ov3 wv3 es w) wr)) (fun iv _ => l.length - (intOf iv).toNat)
  case atStart => exact ⟨0, by omega, rfl, by rw [flipK_zero]; exact A12.out⟩
  case round =>
    obtain ⟨k, hk, rfl, hrel⟩ := hrel
    by_cases hlt : k < l.length
    · obtain ⟨q1, q2, q3⟩ := sh_set (k := k) hrel.out (by rw [flipK_length]) (by rw [flipK_length]; exact hlt)
      rw [flipK_getD l k hlt] at q1
      have Q3 := hid (q3 (UInt8.ofNat (l.getD k 0).toNat ^^^ UInt8.ofNat 255))
      have hfl := hid (show (flipK l k).set k (UInt8.ofNat (l.getD k 0).toNat ^^^ UInt8.ofNat 255) = flipK l (k + 1) from by
        have e : UInt8.ofNat (l.getD k 0).toNat = l.getD k 0 := by simp
        rw [e]
        exact flipK_succ l k hlt)
      rw [hfl.out] at Q3
      have E := u8_xor_val (l.getD k 0).toNat 255 (l.getD k 0).toNat_lt (by omega)
      generalize (l.getD k 0).toNat = x at *
      generalize hX : (UInt8.ofNat x ^^^ UInt8.ofNat 255) = X at *
      have E' : bits .xor .u8 (x : Int) 255 = (X.toNat : Int) := E
      clear q3 hrel hfl E hX A12
      go_wp2
      go_roundw
      case rel => exact ⟨k + 1, by omega, by go_num, Q3.out⟩
      case measure => simp [intOf]; omega
    · have hkl : k = l.length := by omega
      have A13 := hid (show All (rowC (.slice (some ⟨g, 0, none⟩) (l.length + 8) cap) (behind (backK l 0) 8) :: sh S ov3 wv3 es w) wr by have := hrel.out; rw [show flipK l k = backK l 0 from by rw [hkl]; exact back_flip l] at this; exact this)
      clear hrel A12 hkl
      generalize hwo : wr = w13 at *
      clear hwo
      obtain ⟨B, hB⟩ : ∃ B, B = backK l 0 := ⟨_, rfl⟩
      have hBl : B.length = l.length := by rw [hB, backK_length]
      rw [← hB] at A13
      have HB := hid hB
      have HBL := hid hBl
      clear hB hBl
      go_wp2_with fail
      refine ((sp_of A13.out OK.out).holds hel).mono ?_
      rintro e w14 ⟨rfl, q14, hw14⟩
      have A14 := hid (A13.out.drewN q14)
      rw [← hw14] at A14
      clear A13 hw14
      have RF := hid (show ∀ w', All (rowC (.slice (some ⟨g, 0, none⟩) (l.length + 8) cap) (behind B 8) :: sh S ov3 wv3 es w) w' → Reads w' (.slice (some ⟨g, 0, none⟩) l.length cap) B from fun w' ha => by
        have := (Reads.of_owns (ha.rowR (v := .slice (some ⟨g, 0, none⟩) (l.length + 8) cap) (l := behind B 8) (by simp))).front
        rw [HBL.out] at this
        exact this)
      go_wp2_with fail
      refine (lcopied_any (RF.out _ A14.out) (by rw [HBL.out]; omega)).mono ?_
      rintro e w15 ⟨v15, rfl, ho15, hb15⟩
      have A15 := hid (A14.out.later hb15)
      have R15 := hid (Reads.of_owns ho15)
      obtain ⟨x15, y15, hv⟩ := owns_form ho15
      subst hv
      clear ho15 hb15 A14
      obtain ⟨W2, we2, hans2⟩ : ∃ W2 we2, ans o B = (W2, we2) := ⟨_, _, rfl⟩
      have hW2l := ans_len o B
      rw [hans2] at hW2l
      have HA2 := hid hans2
      have hne2 : ((we2 : Int) != (we2 : Int)) = false := by simp
      clear hans2
      go_wp2_with fail
      refine (doc_any o R15.out (by rw [HBL.out]; exact hlen)).mono ?_
      rintro e w16 ⟨v16, rfl, ho16, hb16⟩
      rw [HA2.out] at ho16 ⊢
      have A16 := hid (A15.out.later hb16)
      have R16 := hid (Reads.of_owns ho16)
      obtain ⟨x16, y16, hv⟩ := owns_form ho16
      subst hv
      clear ho16 hb16 A15 R15
      go_wp2_with fail
      refine (ask_any o (HT.out.below (sh_in A16.out)) (RF.out _ A16.out) (by rw [HBL.out]; exact hlen)).mono ?_
      rintro e w17 ⟨v17, rfl, ho17, hb17⟩
      rw [HA2.out] at ho17 ⊢
      have A17 := hid (A16.out.later hb17)
      have R17 := hid (Reads.of_owns ho17)
      have R16' := hid (R16.out.below hb17)
      obtain ⟨x17, y17, hv⟩ := owns_form ho17
      subst hv
      clear ho17 hb17 A16 R16
      simp only [] at R17 R16' ⊢
      go_wp2_with fail
      refine (same_q (l := W2) R17.out R16'.out (by omega)).mono ?_
      rintro e w18 ⟨rfl, q18, hw18⟩
      have A18 := hid (A17.out.drewN q18)
      rw [← hw18] at A18
      rw [HB.out] at A18
      clear A17 hw18 R17 R16'
      go_wp2
      go_loopw [15] (fun iv wr => ∃ k : Nat, k ≤ l.length ∧ iv = .int .i64 (k : Int) ∧ Hid (All (rowC (.slice (some ⟨g, 0, none⟩) (l.length + 8) cap) (behind (backK l k) 8) :: sh S ov3 wv3 es w) wr)) (fun iv _ => l.length - (intOf iv).toNat)
      case atStart => exact ⟨0, by omega, rfl, A18⟩
      case round =>
        obtain ⟨k, hk, rfl, hrel⟩ := hrel
        by_cases hlt : k < l.length
        · obtain ⟨q1, q2, q3⟩ := sh_set (k := k) hrel.out (by rw [backK_length]) (by rw [backK_length]; exact hlt)
          obtain ⟨gb, ob, rfl, q4⟩ := (HH.out.below (sh_in hrel.out)).at_u8 k hlt
          have Q3 := hid (q3 (l.getD k 0))
          rw [backK_succ l k hlt] at Q3
          generalize (l.getD k 0).toNat = x at *
          clear q3 hrel A18
          go_wp2
          go_roundw
          case rel => exact ⟨k + 1, by omega, by go_num, Q3.out⟩
          case measure => simp [intOf]; omega
        · have hkl : k = l.length := by omega
          have A19 := hid (show All (rowC (.slice (some ⟨g, 0, none⟩) (l.length + 8) cap) (behind l 8) :: sh S ov3 wv3 es w) wr by have := hrel.out; rw [hkl, backK_all] at this; exact this)
          clear hrel A18 hkl RF
          generalize hwo : wr = w19 at *
          clear hwo
          go_wp2_with fail
          refine (doc_any o (HH.out.below (sh_in A19.out)) hlen).mono ?_
          rintro e w20 ⟨v20, rfl, ho20, hb20⟩
          rw [hans.out] at ho20 ⊢
          have A20 := hid (A19.out.later hb20)
          have R20 := hid (Reads.of_owns ho20)
          obtain ⟨x20, y20, hv⟩ := owns_form ho20
          subst hv
          clear ho20 hb20 A19
          go_wp2_with fail
          refine (ask_any o (HT.out.below (sh_in A20.out)) (Reads.of_owns (A20.out.rowR (v := .slice (some ⟨g, 0, none⟩) (l.length + 8) cap) (l := behind l 8) (by simp))).front hlen).mono ?_
          rintro e w21 ⟨v21, rfl, ho21, hb21⟩
          rw [hans.out] at ho21 ⊢
          have A21 := hid (A20.out.later hb21)
          have R21 := hid (Reads.of_owns ho21)
          have R20' := hid (R20.out.below hb21)
          obtain ⟨x21, y21, hv⟩ := owns_form ho21
          subst hv
          clear ho21 hb21 A20 R20
          simp only [] at R21 R20' ⊢
          go_wp2_with fail
          refine (same_q (l := W) R21.out R20'.out (by omega)).mono ?_
          rintro e w22 ⟨rfl, q22, hw22⟩
          have A22 := hid (A21.out.drewN q22)
          rw [← hw22] at A22
          clear A21 hw22 R21 R20'
          go_wp2_with fail
          refine (still_any (l := l) (Reads.of_owns (A22.out.rowR (v := .slice (some ⟨g, 0, none⟩) (l.length + 8) cap) (l := behind l 8) (by simp))) (HH.out.below (sh_in A22.out)) hlen).mono ?_
          rintro e w23 ⟨rfl, q23, hw23⟩
          have A23 := hid (A22.out.drewN q23)
          rw [← hw23] at A23
          clear A22 hw23
          go_wp2_with fail
          refine ((sp_of A23.out OK.out).holds hel).mono ?_
          rintro e w24 ⟨rfl, q24, hw24⟩
          have A24 := hid (A23.out.drewN q24)
          rw [← hw24] at A24
          clear A23 hw24
          go_wp2
          go_ret
          exact ⟨rfl, sh_in A24.out⟩
end Go.Proofs.YthnccpbgccmapaaDoor
