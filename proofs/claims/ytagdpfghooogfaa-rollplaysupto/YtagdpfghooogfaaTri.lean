import Derived.Test.YtagdpfghooogfaaJ9
import Derived.Test.YtagdpfghooogfaaLoadG
import Derived.Test.YtagdpfghooogfaaJ11
import Derived.Test.YtagdpfghooogfaaSpoC
namespace Go.Proofs.Ytagdpfghooogfaa
open Go.RowKit
set_option linter.unusedVariables false

theorem OkP.new : OkP (List.replicate 8 .zero) := ⟨rfl, fun p hp => .inl (by rw [List.eq_of_mem_replicate hp]; exact ⟨rfl, rfl, rfl, rfl, rfl, rfl⟩)⟩
theorem Twin.new : Twin (List.replicate 8 .zero) (List.replicate 8 .zero) := ⟨OkP.new, OkP.new, fun c => ⟨rfl, rfl, rfl, rfl, rfl, rfl⟩⟩

theorem atP_in {ps : List Pl} {c : Int} (h : 0 ≤ c ∧ c < 8) : atP ps c = ps.getD c.toNat .zero := by rw [atP, if_pos h]

theorem Twin.setE {ps qs : List Pl} (h : Twin ps qs) (cl n a c k : Int) (l : List ByteArray) : setE qs cl n a c k l = setE ps cl n a c k l := by
  unfold Go.Proofs.Ytagdpfghooogfaa.setE
  by_cases hc : 0 ≤ cl ∧ cl < 8
  · have h1 := h.same cl
    rw [atP_in hc, atP_in hc] at h1
    rw [h1.1, h1.2.1, h1.2.2.1]
  · rw [if_pos hc, if_pos hc]

theorem setE_zero {ps : List Pl} {cl n a c k : Int} {l : List ByteArray} (h : setE ps cl n a c k l = 0) : (0 ≤ cl ∧ cl < 8) ∧ may n a c k l = true := by
  unfold setE at h
  by_cases hc : 0 ≤ cl ∧ cl < 8
  · rw [if_neg (by simpa using hc)] at h
    refine ⟨hc, ?_⟩
    cases hm : may n a c k l with
    | true => rfl
    | false => rw [hm] at h; simp at h
  · rw [if_pos hc] at h
    simp at h

theorem OkP.set {ps : List Pl} {cl n a c k : Int} {s : Value} {l : List ByteArray} (h : OkP ps) (hm : may n a c k l = true) : OkP (ps.set cl.toNat ⟨true, n, a, c, k, s, l⟩) := by
  refine ⟨by rw [List.length_set]; exact h.1, fun p hp => ?_⟩
  rcases List.mem_or_eq_of_mem_set hp with hp | rfl
  · exact h.2 p hp
  · exact .inr ⟨rfl, hm⟩

theorem atP_set {ps : List Pl} (h8 : ps.length = 8) {cl : Int} (hc : 0 ≤ cl ∧ cl < 8) (p : Pl) (d : Int) : atP (ps.set cl.toNat p) d = if d = cl then p else atP ps d := by
  by_cases hd : 0 ≤ d ∧ d < 8
  · rw [atP_in hd, atP_in hd]
    by_cases e : d = cl
    · subst e
      simp [List.getD, h8, show d.toNat < 8 by omega]
    · rw [if_neg e]
      simp only [List.getD, List.getElem?_set]
      rw [if_neg (by omega)]
  · have : d ≠ cl := by rintro rfl; exact hd hc
    rw [if_neg this, atP, if_neg hd, atP, if_neg hd]

theorem Twin.set {ps qs : List Pl} {cl n a c k : Int} {s s' : Value} {l : List ByteArray} (h : Twin ps qs) (hc : 0 ≤ cl ∧ cl < 8) (hm : may n a c k l = true) : Twin (ps.set cl.toNat ⟨true, n, a, c, k, s, l⟩) (qs.set cl.toNat ⟨true, n, a, c, k, s', l⟩) := by
  refine ⟨h.okp.set hm, h.okq.set hm, fun d => ?_⟩
  rw [atP_set h.okp.1 hc, atP_set h.okq.1 hc]
  by_cases e : d = cl
  · rw [if_pos e, if_pos e]
    exact ⟨rfl, rfl, rfl, rfl, rfl, rfl⟩
  · rw [if_neg e, if_neg e]
    exact h.same d

theorem zip_at {ps : List Pl} {ss : List Value} (h : ss.length = ps.length) (d : Int) : ∃ s, atP (List.zipWith withS ps ss) d = withS (atP ps d) s := by
  by_cases hd : 0 ≤ d ∧ d < 8
  · rw [atP_in hd, atP_in hd]
    by_cases hl : d.toNat < ps.length
    · refine ⟨ss[d.toNat]'(by omega), ?_⟩
      have hl2 : d.toNat < (List.zipWith withS ps ss).length := by rw [List.length_zipWith]; omega
      simp [List.getD, List.getElem?_eq_getElem hl2, List.getElem?_eq_getElem hl]
    · refine ⟨.slice none 0 0, ?_⟩
      have hl2 : ¬ d.toNat < (List.zipWith withS ps ss).length := by rw [List.length_zipWith]; omega
      simp only [List.getD]
      rw [List.getElem?_eq_none (by omega), List.getElem?_eq_none (by omega)]
      rfl
  · exact ⟨.slice none 0 0, by rw [atP, if_neg hd, atP, if_neg hd]; rfl⟩

theorem OkP.zip {ps : List Pl} {ss : List Value} (h : OkP ps) (hs : ss.length = 8) : OkP (List.zipWith withS ps ss) := by
  refine ⟨by rw [List.length_zipWith, h.1, hs]; rfl, fun p hp => ?_⟩
  obtain ⟨i, hi, rfl⟩ := List.getElem_of_mem hp
  rw [List.getElem_zipWith]
  have hi2 : i < ps.length := by rw [List.length_zipWith] at hi; omega
  have := h.2 _ (List.getElem_mem hi2)
  exact this

theorem Twin.zip {ps qs : List Pl} {ss ts : List Value} (h : Twin ps qs) (hs : ss.length = 8) (ht : ts.length = 8) : Twin (List.zipWith withS ps ss) (List.zipWith withS qs ts) := by
  refine ⟨h.okp.zip hs, h.okq.zip ht, fun d => ?_⟩
  obtain ⟨s, e1⟩ := zip_at (by rw [hs, h.okp.1]) d
  obtain ⟨t, e2⟩ := zip_at (by rw [ht, h.okq.1]) d
  rw [e1, e2]
  exact h.same d

theorem OkP.few {ps : List Pl} (h : OkP ps) : ∀ p ∈ ps, p.l.length ≤ 1000 := fun p hp => by
  rcases h.2 p hp with ⟨_, hh⟩ | ⟨_, hh⟩
  · rw [hh.2.2.2.2]; simp
  · have := may_parts hh; omega
theorem OkP.bytes_few {ps : List Pl} (h : OkP ps) : ∀ l ∈ ps.map Pl.bytes, l.length ≤ 1000 := fun l hl => by
  obtain ⟨p, hp, rfl⟩ := List.mem_map.1 hl
  unfold Pl.bytes
  split
  · rename_i ho
    have := (rowB_len ((h.2 p hp).may ho)).2
    omega
  · simp

theorem pick3_any {w : World} {c : Int} (h1 : -9223372036854775808 ≤ c) (h2 : c < 9223372036854775808) : Calls Try.prog 10 #[.int .i64 c, .int .i64 3] w fun e w' => ∃ i : Nat, i < 3 ∧ e = .returned (.int .i64 (i : Int)) ∧ w' = w := by
  by_cases h0 : c < 0
  · have e0 : decide (c < 0) = true := by simpa using h0
    have e1 : IntKind.i64.wrap (c + 1) = c + 1 := by rw [IntKind.wrap_i64]; omega
    have e2 : IntKind.i64.wrap (-(c + 1)) = -(c + 1) := by rw [IntKind.wrap_i64]; omega
    have F : Hid (∃ i : Nat, i < 3 ∧ -(c + 1).tmod 3 = (i : Int)) := hid (by
      obtain ⟨m, hm⟩ : ∃ m : Nat, c + 1 = -(m : Int) := ⟨(-(c + 1)).toNat, by omega⟩
      refine ⟨m % 3, Nat.mod_lt _ (by omega), ?_⟩
      rw [hm, Int.neg_tmod, Int.neg_neg]
      rfl)
    go_enter Try.func10, Try.ntmps10
    go_wp2
    go_ret
    obtain ⟨i, hi, hF⟩ := F.out
    exact ⟨i, hi, by rw [← hF]; rfl, rfl⟩
  · have e0 : decide (c < 0) = false := by simpa using h0
    go_enter Try.func10, Try.ntmps10
    go_wp2
    go_ret
    exact ⟨(c % 3).toNat, by omega, by rw [show (((c % 3).toNat : Nat) : Int) = c % 3 by omega]; rfl, rfl⟩

/-- A roll of the program and the document's beside it. -/
structure Rl where
  g : Nat
  h : Nat
  ps : List Pl
  qs : List Pl
def Rl.parts (r : Rl) : List Comp := rollL r.g r.ps ++ xrollL r.h r.qs
def ptrG (T : List Rl) : List Value := T.map fun r => .pointer (some ⟨r.g, 0, none⟩)
def ptrH (T : List Rl) : List Value := T.map fun r => .pointer (some ⟨r.h, 0, none⟩)
def duoG (A B : Nat) (ga hb : List Value) (T : List Rl) : List Comp := blkC A ga 25 :: blkC B hb 27 :: T.flatMap Rl.parts
def OT (T : List Rl) (i : Nat) : List Comp := (T.take i ++ T.drop (i + 1)).flatMap Rl.parts

theorem flat_mid {T : List Rl} {i : Nat} {r : Rl} (h : T[i]? = some r) (X Z : List Comp) (r' : Rl) :
    (X ++ ((T.set i r').flatMap Rl.parts ++ Z)).Perm (r'.parts ++ (X ++ (OT T i ++ Z))) ∧ (X ++ (T.flatMap Rl.parts ++ Z)).Perm (r.parts ++ (X ++ (OT T i ++ Z))) := by
  have hi := (List.getElem?_eq_some_iff.1 h).1
  have e1 : T.set i r' = T.take i ++ r' :: T.drop (i + 1) := List.set_eq_take_append_cons_drop ▸ (by simp [hi])
  have e2 : T = T.take i ++ r :: T.drop (i + 1) := by
    have := (List.getElem?_eq_some_iff.1 h).2
    rw [← this]
    simp
  have key : ∀ y : Rl, (X ++ ((T.take i ++ y :: T.drop (i + 1)).flatMap Rl.parts ++ Z)).Perm (y.parts ++ (X ++ (OT T i ++ Z))) := fun y => by
    have := List.perm_append_comm_assoc (X ++ (T.take i).flatMap Rl.parts) y.parts ((T.drop (i + 1)).flatMap Rl.parts ++ Z)
    simpa [List.append_assoc, OT] using this
  refine ⟨by rw [e1]; exact key r', ?_⟩
  have := key r
  rw [← e2] at this
  exact this

/-- One of the rolls is taken out. -/
theorem duo_out {A B i : Nat} {ga hb : List Value} {T : List Rl} {r : Rl} {Z : List Comp} (h : T[i]? = some r) : (duoG A B ga hb T ++ Z).Perm (rollL r.g r.ps ++ (xrollL r.h r.qs ++ ([blkC A ga 25, blkC B hb 27] ++ (OT T i ++ Z)))) := by
  have := (flat_mid h [blkC A ga 25, blkC B hb 27] Z r).2
  simpa [duoG, Rl.parts, List.append_assoc] using this
theorem duo_in {A B i : Nat} {ga hb : List Value} {T : List Rl} {r r' : Rl} {Z : List Comp} (h : T[i]? = some r) : (rollL r'.g r'.ps ++ (xrollL r'.h r'.qs ++ ([blkC A ga 25, blkC B hb 27] ++ (OT T i ++ Z)))).Perm (duoG A B ga hb (T.set i r') ++ Z) := by
  have := (flat_mid h [blkC A ga 25, blkC B hb 27] Z r').1
  simpa [duoG, Rl.parts, List.append_assoc] using this.symm
theorem setT_same {T : List Rl} {i : Nat} {r : Rl} (h : T[i]? = some r) : T.set i r = T := by
  have := (List.getElem?_eq_some_iff.1 h).2
  rw [← this]; simp
/-- A new roll takes a place. -/
theorem duo_new {A B i : Nat} {ga hb : List Value} {T : List Rl} {r r' : Rl} {Z : List Comp} {w : World} (h : T[i]? = some r) (hA : All (rollL r'.g r'.ps ++ (xrollL r'.h r'.qs ++ (duoG A B ga hb T ++ Z))) w) : All (duoG A B ga hb (T.set i r') ++ Z) w := by
  have h1 : All (rollL r'.g r'.ps ++ (xrollL r'.h r'.qs ++ (rollL r.g r.ps ++ (xrollL r.h r.qs ++ ([blkC A ga 25, blkC B hb 27] ++ (OT T i ++ Z)))))) w := hA.perm ((duo_out h).append_left _ |>.append_left _)
  have h2 := h1.sublist (ds := rollL r'.g r'.ps ++ (xrollL r'.h r'.qs ++ ([blkC A ga 25, blkC B hb 27] ++ (OT T i ++ Z)))) (List.Sublist.append (.refl _) (List.Sublist.append (.refl _) ((List.sublist_append_right _ _).trans (List.sublist_append_right _ _))))
  exact h2.perm (duo_in h)

/-- The book and its lists. -/
def bookL (b : Nat) (vi : Value) (LI : List (Value × List ByteArray)) (vt : Value) (LT : List (Value × List UInt8)) : List Comp := bookC b vi (LI.map Prod.fst) vt (LT.map Prod.fst) ++ (LI.map tpart ++ LT.map bpart)

section
variable {A B i b : Nat} {ga hb : List Value} {T : List Rl} {r : Rl} {vi vt : Value} {LI : List (Value × List ByteArray)} {LT : List (Value × List UInt8)} {Z : List Comp} {w : World}

theorem klast3 (h : All (duoG A B ga hb T ++ (bookL b vi LI vt LT ++ Z)) w) (hT : T[i]? = some r) (tw : Twin r.ps r.qs) (hl : LI.length ≤ 100000000) (hs : ∀ e ∈ LI, e.2.length ≤ 1000) (cl : Int) :
    Calls Try.prog 15 #[.pointer (some ⟨b, 0, none⟩), .pointer (some ⟨r.g, 0, none⟩), .pointer (some ⟨r.h, 0, none⟩), .int .i64 cl] w fun e w' => e = .returned (.bool true) ∧ ∃ vi' LI', Hid (LI'.length = LI.length + 2 ∧ (∀ e ∈ LI', e.2.length ≤ 1000) ∧ All (duoG A B ga hb T ++ (bookL b vi' LI' vt LT ++ Z)) w') := by
  have h1 := h.perm (duo_out hT)
  have h2 : All (rollL r.g r.ps ++ (xrollL r.h r.qs ++ (bookC b vi (LI.map Prod.fst) vt (LT.map Prod.fst) ++ ([blkC A ga 25, blkC B hb 27] ++ (OT T i ++ (LI.map tpart ++ (LT.map bpart ++ Z))))))) w := h1.perm (by
    have := perm_by 8 [rollL r.g r.ps, xrollL r.h r.qs, [blkC A ga 25, blkC B hb 27], OT T i, bookC b vi (LI.map Prod.fst) vt (LT.map Prod.fst), LI.map tpart, LT.map bpart, Z] [0, 1, 4, 2, 3, 5, 6, 7] rfl (by decide)
    simpa [List.getD, bookL, List.append_assoc] using this)
  refine (klast_any tw h2 (by simpa using hl) cl).mono ?_
  rintro e w' ⟨rfl, vi', x1, l1, y1, l2, ⟨b1, b2⟩, H⟩
  refine ⟨rfl, vi', LI ++ [(x1, l1), (y1, l2)], hid ⟨by simp, ?_, ?_⟩⟩
  · intro e he
    simp only [List.mem_append, List.mem_cons, List.not_mem_nil, or_false] at he
    rcases he with he | rfl | rfl
    · exact hs e he
    · exact b1
    · exact b2
  · have h3 : All (rollL r.g r.ps ++ (xrollL r.h r.qs ++ ([blkC A ga 25, blkC B hb 27] ++ (OT T i ++ (bookL b vi' (LI ++ [(x1, l1), (y1, l2)]) vt LT ++ Z))))) w' := H.out.perm (by
      have := perm_by 9 [rollL r.g r.ps, xrollL r.h r.qs, bookC b vi' ((LI ++ [(x1, l1), (y1, l2)]).map Prod.fst) vt (LT.map Prod.fst), [tpart (x1, l1), tpart (y1, l2)], [blkC A ga 25, blkC B hb 27], OT T i, LI.map tpart, LT.map bpart, Z] [0, 1, 4, 5, 2, 6, 3, 7, 8] rfl (by decide)
      simpa [List.getD, bookL, List.append_assoc] using this)
    have h4 := h3.perm (duo_in (r' := r) hT)
    rw [setT_same hT] at h4
    exact h4

theorem kbytes3 (h : All (duoG A B ga hb T ++ (bookL b vi LI vt LT ++ Z)) w) (hT : T[i]? = some r) (tw : Twin r.ps r.qs) (hl : LT.length ≤ 100000000) (hs : ∀ e ∈ LT, e.2.length ≤ 1000) (cl : Int) :
    Calls Try.prog 16 #[.pointer (some ⟨b, 0, none⟩), .pointer (some ⟨r.g, 0, none⟩), .pointer (some ⟨r.h, 0, none⟩), .int .i64 cl] w fun e w' => e = .returned (.bool true) ∧ ∃ vt' LT', Hid (LT'.length = LT.length + 2 ∧ (∀ e ∈ LT', e.2.length ≤ 1000) ∧ All (duoG A B ga hb T ++ (bookL b vi LI vt' LT' ++ Z)) w') := by
  have h1 := h.perm (duo_out hT)
  have h2 : All (rollL r.g r.ps ++ (xrollL r.h r.qs ++ (bookC b vi (LI.map Prod.fst) vt (LT.map Prod.fst) ++ ([blkC A ga 25, blkC B hb 27] ++ (OT T i ++ (LI.map tpart ++ (LT.map bpart ++ Z))))))) w := h1.perm (by
    have := perm_by 8 [rollL r.g r.ps, xrollL r.h r.qs, [blkC A ga 25, blkC B hb 27], OT T i, bookC b vi (LI.map Prod.fst) vt (LT.map Prod.fst), LI.map tpart, LT.map bpart, Z] [0, 1, 4, 2, 3, 5, 6, 7] rfl (by decide)
    simpa [List.getD, bookL, List.append_assoc] using this)
  refine (kbytes_any tw h2 (by simpa using hl) cl).mono ?_
  rintro e w' ⟨rfl, vt', x1, l1, y1, l2, ⟨b1, b2⟩, H⟩
  refine ⟨rfl, vt', LT ++ [(x1, l1), (y1, l2)], hid ⟨by simp, ?_, ?_⟩⟩
  · intro e he
    simp only [List.mem_append, List.mem_cons, List.not_mem_nil, or_false] at he
    rcases he with he | rfl | rfl
    · exact hs e he
    · exact b1
    · exact b2
  · have h3 : All (rollL r.g r.ps ++ (xrollL r.h r.qs ++ ([blkC A ga 25, blkC B hb 27] ++ (OT T i ++ (bookL b vi LI vt' (LT ++ [(x1, l1), (y1, l2)]) ++ Z))))) w' := H.out.perm (by
      have := perm_by 9 [rollL r.g r.ps, xrollL r.h r.qs, bookC b vi (LI.map Prod.fst) vt' ((LT ++ [(x1, l1), (y1, l2)]).map Prod.fst), [bpart (x1, l1), bpart (y1, l2)], [blkC A ga 25, blkC B hb 27], OT T i, LI.map tpart, LT.map bpart, Z] [0, 1, 4, 5, 2, 6, 7, 3, 8] rfl (by decide)
      simpa [List.getD, bookL, List.append_assoc] using this)
    have h4 := h3.perm (duo_in (r' := r) hT)
    rw [setT_same hT] at h4
    exact h4

theorem set3 {cl n a c k : Int} {s : Value} {l : List ByteArray} (h : All (duoG A B ga hb T ++ Z) w) (hT : T[i]? = some r) (h8 : r.ps.length = 8) (hX : Txts w s l) (hl : l.length ≤ 9223372036854775807) :
    Calls Try.prog 12 #[.pointer (some ⟨r.g, 0, none⟩), .int .i64 cl, rowV n a c k s] w fun e w' => e = .returned (.int .i64 (setE r.ps cl n a c k l)) ∧ ∃ ps', Hid (All (duoG A B ga hb (T.set i { r with ps := ps' }) ++ Z) w' ∧ ((setE r.ps cl n a c k l ≠ 0 ∧ ps' = r.ps) ∨ (setE r.ps cl n a c k l = 0 ∧ ∃ s', ps' = r.ps.set cl.toNat ⟨true, n, a, c, k, s', l⟩))) := by
  refine (set_any (h.perm (duo_out hT)) h8 hX hl).mono ?_
  rintro e w' ⟨rfl, ps', hA, hcase⟩
  exact ⟨rfl, ps', hid ⟨hA.perm (duo_in (r' := { r with ps := ps' }) hT), hcase⟩⟩

theorem xset3 {cl n a c k : Int} {s : Value} {l : List ByteArray} (h : All (duoG A B ga hb T ++ Z) w) (hT : T[i]? = some r) (h8 : r.qs.length = 8) (hX : ∀ w', All Z w' → Txts w' s l) (hl : l.length ≤ 9223372036854775807) :
    Calls Try.prog 14 #[.pointer (some ⟨r.h, 0, none⟩), .int .i64 cl, rowV n a c k s] w fun e w' => e = .returned (.int .i64 (setE r.qs cl n a c k l)) ∧ ∃ qs', Hid (All (duoG A B ga hb (T.set i { r with qs := qs' }) ++ Z) w' ∧ ((setE r.qs cl n a c k l ≠ 0 ∧ qs' = r.qs) ∨ (setE r.qs cl n a c k l = 0 ∧ ∃ s', qs' = r.qs.set cl.toNat ⟨true, n, a, c, k, s', l⟩))) := by
  have h1 : All (xrollL r.h r.qs ++ (rollL r.g r.ps ++ ([blkC A ga 25, blkC B hb 27] ++ (OT T i ++ Z)))) w := (h.perm (duo_out hT)).perm (List.perm_append_comm_assoc _ _ _)
  refine (xset_any h1 h8 (fun w' hw => hX w' (hw.sublist ((List.sublist_append_right _ _).trans ((List.sublist_append_right _ _).trans (List.sublist_append_right _ _))))) hl).mono ?_
  rintro e w' ⟨rfl, qs', H⟩
  exact ⟨rfl, qs', hid ⟨(H.out.1.perm (List.perm_append_comm_assoc _ _ _)).perm (duo_in (r' := { r with qs := qs' }) hT), H.out.2⟩⟩

theorem clone3 (h : All (duoG A B ga hb T ++ Z) w) (hT : T[i]? = some r) (hok : OkP r.ps) :
    Calls Try.prog 17 #[.pointer (some ⟨r.g, 0, none⟩)] w fun e w' => ∃ K ss, e = .returned (.pointer (some ⟨K, 0, none⟩)) ∧ Hid (ss.length = 8 ∧ All (rollL K (List.zipWith withS r.ps ss) ++ (duoG A B ga hb T ++ Z)) w') := by
  refine (rclone_any (h.perm (duo_out hT)) hok.1 hok.few).mono ?_
  rintro e w' ⟨K, ss, rfl, H⟩
  exact ⟨K, ss, rfl, hid ⟨H.out.1, H.out.2.perm ((duo_out hT).symm.append_left _)⟩⟩

theorem xclone3 {Y : List Comp} (h : All (Y ++ (duoG A B ga hb T ++ Z)) w) (hT : T[i]? = some r) (hok : OkP r.qs) :
    Calls Try.prog 18 #[.pointer (some ⟨r.h, 0, none⟩)] w fun e w' => ∃ K ss, e = .returned (.pointer (some ⟨K, 0, none⟩)) ∧ Hid (ss.length = 8 ∧ All (xrollL K (List.zipWith withS r.qs ss) ++ (Y ++ (duoG A B ga hb T ++ Z))) w') := by
  have p : (Y ++ (duoG A B ga hb T ++ Z)).Perm (xrollL r.h r.qs ++ (Y ++ (rollL r.g r.ps ++ ([blkC A ga 25, blkC B hb 27] ++ (OT T i ++ Z))))) := by
    refine ((duo_out hT).append_left Y).trans ?_
    have := perm_by 4 [Y, rollL r.g r.ps, xrollL r.h r.qs, [blkC A ga 25, blkC B hb 27] ++ (OT T i ++ Z)] [2, 0, 1, 3] rfl (by decide)
    simpa [List.getD, List.append_assoc] using this
  refine (xclone_any (h.perm p) hok.1 hok.few).mono ?_
  rintro e w' ⟨K, ss, rfl, H⟩
  exact ⟨K, ss, rfl, hid ⟨H.out.1, H.out.2.perm (p.symm.append_left _)⟩⟩

theorem rows3 (h : All (duoG A B ga hb T ++ Z) w) (hT : T[i]? = some r) (hok : OkP r.ps) :
    Calls Try.prog 19 #[.pointer (some ⟨r.g, 0, none⟩)] w fun e w' => ∃ (so : Option Addr) (sc : Nat) (bl : List (Value × List UInt8)), e = .returned (.slice so 8 sc) ∧ Hid (bl.map Prod.snd = r.ps.map Pl.bytes ∧ All (ownC 40 (.slice so 8 sc) (bl.map Prod.fst) :: (bl.map bpart ++ (duoG A B ga hb T ++ Z))) w') := by
  refine (rows_any (h.perm (duo_out hT)) hok).mono ?_
  rintro e w' ⟨so, sc, bl, rfl, h1, h2, H⟩
  exact ⟨so, sc, bl, rfl, hid ⟨h1, H.perm (((duo_out hT).symm.append_left _).cons _)⟩⟩
end
end Go.Proofs.Ytagdpfghooogfaa
