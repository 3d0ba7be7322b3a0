import Derived.Test.YtagdpfghooogfaaJ9
import Derived.Test.YtagdpfghooogfaaLoadG
import Derived.Test.YtagdpfghooogfaaJ11
import Derived.Test.YtagdpfghooogfaaSpoC
import Derived.Test.YtagdpfghooogfaaJ2
import Derived.ProofKit
import Derived.OpenShut
import Derived.JoinedCond
import Derived.Deep.Slices
import Derived.Lib.SmallJoins
import Derived.Carry
import Derived.Test.YtagdpfghooogfaaJ7
import Derived.Deep.Strs
import Derived.Test.YtagdpfghooogfaaJ6
import Derived.Test.YtagdpfghooogfaaJ4
namespace Go.Proofs.Ytagdpfghooogfaa
open Go.RowKit
set_option linter.unusedVariables false

theorem OkP.new : OkP (List.replicate 8 .zero) := ⟨rfl, fun p hp => .inl (by rw [List.eq_of_mem_replicate hp]; exact ⟨rfl, rfl, rfl, rfl, rfl, rfl⟩)⟩
theorem Twin.new : Twin (List.replicate 8 .zero) (List.replicate 8 .zero) := ⟨OkP.new, OkP.new, fun c => ⟨rfl, rfl, rfl, rfl, rfl, rfl⟩⟩

theorem atP_in {ps : List Pl} {c : Int} (h : 0 ≤ c ∧ c < 8) : atP ps c = ps.getD c.toNat .zero := by rw [atP, if_pos h]

theorem Twin.setE {ps qs : List Pl} (h : Twin ps qs) (cl n a c k : Int) (l : List ByteArray) : setE qs cl n a c k l = setE ps cl n a c k l := by
  unfold Go.Proofs.Ytagdpfghooogfaa.setE
  by_cases hc : 0 ≤ cl ∧ cl < 8
  · have h1 := h.same cl
    rw [atP_in hc, atP_in hc] at h1
    rw [h1.1, h1.2.1, h1.2.2.1]
  · rw [if_pos hc, if_pos hc]

theorem setE_zero {ps : List Pl} {cl n a c k : Int} {l : List ByteArray} (h : setE ps cl n a c k l = 0) : (0 ≤ cl ∧ cl < 8) ∧ may n a c k l = true := by
  unfold setE at h
  by_cases hc : 0 ≤ cl ∧ cl < 8
  · rw [if_neg (by simpa using hc)] at h
    refine ⟨hc, ?_⟩
    cases hm : may n a c k l with
    | true => rfl
    | false => rw [hm] at h; simp at h
  · rw [if_pos hc] at h
    simp at h

theorem OkP.set {ps : List Pl} {cl n a c k : Int} {s : Value} {l : List ByteArray} (h : OkP ps) (hm : may n a c k l = true) : OkP (ps.set cl.toNat ⟨true, n, a, c, k, s, l⟩) := by
  refine ⟨by rw [List.length_set]; exact h.1, fun p hp => ?_⟩
  rcases List.mem_or_eq_of_mem_set hp with hp | rfl
  · exact h.2 p hp
  · exact .inr ⟨rfl, hm⟩

theorem atP_set {ps : List Pl} (h8 : ps.length = 8) {cl : Int} (hc : 0 ≤ cl ∧ cl < 8) (p : Pl) (d : Int) : atP (ps.set cl.toNat p) d = if d = cl then p else atP ps d := by
  by_cases hd : 0 ≤ d ∧ d < 8
  · rw [atP_in hd, atP_in hd]
    by_cases e : d = cl
    · subst e
      simp [List.getD, h8, show d.toNat < 8 by omega]
    · rw [if_neg e]
      simp only [List.getD, List.getElem?_set]
      rw [if_neg (by omega)]
  · have : d ≠ cl := by rintro rfl; exact hd hc
    rw [if_neg this, atP, if_neg hd, atP, if_neg hd]

theorem Twin.set {ps qs : List Pl} {cl n a c k : Int} {s s' : Value} {l : List ByteArray} (h : Twin ps qs) (hc : 0 ≤ cl ∧ cl < 8) (hm : may n a c k l = true) : Twin (ps.set cl.toNat ⟨true, n, a, c, k, s, l⟩) (qs.set cl.toNat ⟨true, n, a, c, k, s', l⟩) := by
  refine ⟨h.okp.set hm, h.okq.set hm, fun d => ?_⟩
  rw [atP_set h.okp.1 hc, atP_set h.okq.1 hc]
  by_cases e : d = cl
  · rw [if_pos e, if_pos e]
    exact ⟨rfl, rfl, rfl, rfl, rfl, rfl⟩
  · rw [if_neg e, if_neg e]
    exact h.same d

theorem zip_at {ps : List Pl} {ss : List Value} (h : ss.length = ps.length) (d : Int) : ∃ s, atP (List.zipWith withS ps ss) d = withS (atP ps d) s := by
  by_cases hd : 0 ≤ d ∧ d < 8
  · rw [atP_in hd, atP_in hd]
    by_cases hl : d.toNat < ps.length
    · refine ⟨ss[d.toNat]'(by omega), ?_⟩
      have hl2 : d.toNat < (List.zipWith withS ps ss).length := by rw [List.length_zipWith]; omega
      simp [List.getD, List.getElem?_eq_getElem hl2, List.getElem?_eq_getElem hl]
    · refine ⟨.slice none 0 0, ?_⟩
      have hl2 : ¬ d.toNat < (List.zipWith withS ps ss).length := by rw [List.length_zipWith]; omega
      simp only [List.getD]
      rw [List.getElem?_eq_none (by omega), List.getElem?_eq_none (by omega)]
      rfl
  · exact ⟨.slice none 0 0, by rw [atP, if_neg hd, atP, if_neg hd]; rfl⟩

theorem OkP.zip {ps : List Pl} {ss : List Value} (h : OkP ps) (hs : ss.length = 8) : OkP (List.zipWith withS ps ss) := by
  refine ⟨by rw [List.length_zipWith, h.1, hs]; rfl, fun p hp => ?_⟩
  obtain ⟨i, hi, rfl⟩ := List.getElem_of_mem hp
  rw [List.getElem_zipWith]
  have hi2 : i < ps.length := by rw [List.length_zipWith] at hi; omega
  have := h.2 _ (List.getElem_mem hi2)
  exact this

theorem Twin.zip {ps qs : List Pl} {ss ts : List Value} (h : Twin ps qs) (hs : ss.length = 8) (ht : ts.length = 8) : Twin (List.zipWith withS ps ss) (List.zipWith withS qs ts) := by
  refine ⟨h.okp.zip hs, h.okq.zip ht, fun d => ?_⟩
  obtain ⟨s, e1⟩ := zip_at (by rw [hs, h.okp.1]) d
  obtain ⟨t, e2⟩ := zip_at (by rw [ht, h.okq.1]) d
  rw [e1, e2]
  exact h.same d

theorem OkP.few {ps : List Pl} (h : OkP ps) : ∀ p ∈ ps, p.l.length ≤ 1000 := fun p hp => by
  rcases h.2 p hp with ⟨_, hh⟩ | ⟨_, hh⟩
  · rw [hh.2.2.2.2]; simp
  · have := may_parts hh; omega
theorem OkP.bytes_few {ps : List Pl} (h : OkP ps) : ∀ l ∈ ps.map Pl.bytes, l.length ≤ 1000 := fun l hl => by
  obtain ⟨p, hp, rfl⟩ := List.mem_map.1 hl
  unfold Pl.bytes
  split
  · rename_i ho
    have := (rowB_len ((h.2 p hp).may ho)).2
    omega
  · simp

theorem pick3_any {w : World} {c : Int} (h1 : -9223372036854775808 ≤ c) (h2 : c < 9223372036854775808) : Calls Try.prog 10 #[.int .i64 c, .int .i64 3] w fun e w' => ∃ i : Nat, i < 3 ∧ e = .returned (.int .i64 (i : Int)) ∧ w' = w := by
  by_cases h0 : c < 0
  · have e0 : decide (c < 0) = true := by simpa using h0
    have e1 : IntKind.i64.wrap (c + 1) = c + 1 := by rw [IntKind.wrap_i64]; omega
    have e2 : IntKind.i64.wrap (-(c + 1)) = -(c + 1) := by rw [IntKind.wrap_i64]; omega
    have F : Hid (∃ i : Nat, i < 3 ∧ -(c + 1).tmod 3 = (i : Int)) := hid (by
      obtain ⟨m, hm⟩ : ∃ m : Nat, c + 1 = -(m : Int) := ⟨(-(c + 1)).toNat, by omega⟩
      refine ⟨m % 3, Nat.mod_lt _ (by omega), ?_⟩
      rw [hm, Int.neg_tmod, Int.neg_neg]
      rfl)
    go_enter Try.func10, Try.ntmps10
    go_wp2
    go_ret
    obtain ⟨i, hi, hF⟩ := F.out
    exact ⟨i, hi, by rw [← hF]; rfl, rfl⟩
  · have e0 : decide (c < 0) = false := by simpa using h0
    go_enter Try.func10, Try.ntmps10
    go_wp2
    go_ret
    exact ⟨(c % 3).toNat, by omega, by rw [show (((c % 3).toNat : Nat) : Int) = c % 3 by omega]; rfl, rfl⟩

/-- A roll of the program and the document's beside it. -/
structure Rl where
  g : Nat
  h : Nat
  ps : List Pl
  qs : List Pl
def Rl.parts (r : Rl) : List Comp := rollL r.g r.ps ++ xrollL r.h r.qs
def ptrG (T : List Rl) : List Value := T.map fun r => .pointer (some ⟨r.g, 0, none⟩)
def ptrH (T : List Rl) : List Value := T.map fun r => .pointer (some ⟨r.h, 0, none⟩)
def duoG (A B : Nat) (ga hb : List Value) (T : List Rl) : List Comp := blkC A ga 25 :: blkC B hb 27 :: T.flatMap Rl.parts
def OT (T : List Rl) (i : Nat) : List Comp := (T.take i ++ T.drop (i + 1)).flatMap Rl.parts

theorem flat_mid {T : List Rl} {i : Nat} {r : Rl} (h : T[i]? = some r) (X Z : List Comp) (r' : Rl) :
    (X ++ ((T.set i r').flatMap Rl.parts ++ Z)).Perm (r'.parts ++ (X ++ (OT T i ++ Z))) ∧ (X ++ (T.flatMap Rl.parts ++ Z)).Perm (r.parts ++ (X ++ (OT T i ++ Z))) := by
  have hi := (List.getElem?_eq_some_iff.1 h).1
  have e1 : T.set i r' = T.take i ++ r' :: T.drop (i + 1) := List.set_eq_take_append_cons_drop ▸ (by simp [hi])
  have e2 : T = T.take i ++ r :: T.drop (i + 1) := by
    have := (List.getElem?_eq_some_iff.1 h).2
    rw [← this]
    simp
  have key : ∀ y : Rl, (X ++ ((T.take i ++ y :: T.drop (i + 1)).flatMap Rl.parts ++ Z)).Perm (y.parts ++ (X ++ (OT T i ++ Z))) := fun y => by
    have := List.perm_append_comm_assoc (X ++ (T.take i).flatMap Rl.parts) y.parts ((T.drop (i + 1)).flatMap Rl.parts ++ Z)
    simpa [List.append_assoc, OT] using this
  refine ⟨by rw [e1]; exact key r', ?_⟩
  have := key r
  rw [← e2] at this
  exact this

/-- One of the rolls is taken out. -/
theorem duo_out {A B i : Nat} {ga hb : List Value} {T : List Rl} {r : Rl} {Z : List Comp} (h : T[i]? = some r) : (duoG A B ga hb T ++ Z).Perm (rollL r.g r.ps ++ (xrollL r.h r.qs ++ ([blkC A ga 25, blkC B hb 27] ++ (OT T i ++ Z)))) := by
  have := (flat_mid h [blkC A ga 25, blkC B hb 27] Z r).2
  simpa [duoG, Rl.parts, List.append_assoc] using this
theorem duo_in {A B i : Nat} {ga hb : List Value} {T : List Rl} {r r' : Rl} {Z : List Comp} (h : T[i]? = some r) : (rollL r'.g r'.ps ++ (xrollL r'.h r'.qs ++ ([blkC A ga 25, blkC B hb 27] ++ (OT T i ++ Z)))).Perm (duoG A B ga hb (T.set i r') ++ Z) := by
  have := (flat_mid h [blkC A ga 25, blkC B hb 27] Z r').1
  simpa [duoG, Rl.parts, List.append_assoc] using this.symm
theorem setT_same {T : List Rl} {i : Nat} {r : Rl} (h : T[i]? = some r) : T.set i r = T := by
  have := (List.getElem?_eq_some_iff.1 h).2
  rw [← this]; simp
/-- A new roll takes a place. -/
theorem duo_new {A B i : Nat} {ga hb : List Value} {T : List Rl} {r r' : Rl} {Z : List Comp} {w : World} (h : T[i]? = some r) (hA : All (rollL r'.g r'.ps ++ (xrollL r'.h r'.qs ++ (duoG A B ga hb T ++ Z))) w) : All (duoG A B ga hb (T.set i r') ++ Z) w := by
  have h1 : All (rollL r'.g r'.ps ++ (xrollL r'.h r'.qs ++ (rollL r.g r.ps ++ (xrollL r.h r.qs ++ ([blkC A ga 25, blkC B hb 27] ++ (OT T i ++ Z)))))) w := hA.perm ((duo_out h).append_left _ |>.append_left _)
  have h2 := h1.sublist (ds := rollL r'.g r'.ps ++ (xrollL r'.h r'.qs ++ ([blkC A ga 25, blkC B hb 27] ++ (OT T i ++ Z)))) (List.Sublist.append (.refl _) (List.Sublist.append (.refl _) ((List.sublist_append_right _ _).trans (List.sublist_append_right _ _))))
  exact h2.perm (duo_in h)

/-- The book and its lists. -/
def bookL (b : Nat) (vi : Value) (LI : List (Value × List ByteArray)) (vt : Value) (LT : List (Value × List UInt8)) : List Comp := bookC b vi (LI.map Prod.fst) vt (LT.map Prod.fst) ++ (LI.map tpart ++ LT.map bpart)

section
variable {A B i b : Nat} {ga hb : List Value} {T : List Rl} {r : Rl} {vi vt : Value} {LI : List (Value × List ByteArray)} {LT : List (Value × List UInt8)} {Z : List Comp} {w : World}

theorem klast3 (h : All (duoG A B ga hb T ++ (bookL b vi LI vt LT ++ Z)) w) (hT : T[i]? = some r) (tw : Twin r.ps r.qs) (hl : LI.length ≤ 100000000) (hs : ∀ e ∈ LI, e.2.length ≤ 1000) (cl : Int) :
    Calls Try.prog 15 #[.pointer (some ⟨b, 0, none⟩), .pointer (some ⟨r.g, 0, none⟩), .pointer (some ⟨r.h, 0, none⟩), .int .i64 cl] w fun e w' => e = .returned (.bool true) ∧ ∃ vi' LI', Hid (LI'.length = LI.length + 2 ∧ (∀ e ∈ LI', e.2.length ≤ 1000) ∧ All (duoG A B ga hb T ++ (bookL b vi' LI' vt LT ++ Z)) w') := by
  have h1 := h.perm (duo_out hT)
  have h2 : All (rollL r.g r.ps ++ (xrollL r.h r.qs ++ (bookC b vi (LI.map Prod.fst) vt (LT.map Prod.fst) ++ ([blkC A ga 25, blkC B hb 27] ++ (OT T i ++ (LI.map tpart ++ (LT.map bpart ++ Z))))))) w := h1.perm (by
    have := perm_by 8 [rollL r.g r.ps, xrollL r.h r.qs, [blkC A ga 25, blkC B hb 27], OT T i, bookC b vi (LI.map Prod.fst) vt (LT.map Prod.fst), LI.map tpart, LT.map bpart, Z] [0, 1, 4, 2, 3, 5, 6, 7] rfl (by decide)
    simpa [List.getD, bookL, List.append_assoc] using this)
  refine (klast_any tw h2 (by simpa using hl) cl).mono ?_
  rintro e w' ⟨rfl, vi', x1, l1, y1, l2, ⟨b1, b2⟩, H⟩
  refine ⟨rfl, vi', LI ++ [(x1, l1), (y1, l2)], hid ⟨by simp, ?_, ?_⟩⟩
  · intro e he
    simp only [List.mem_append, List.mem_cons, List.not_mem_nil, or_false] at he
    rcases he with he | rfl | rfl
    · exact hs e he
    · exact b1
    · exact b2
  · have h3 : All (rollL r.g r.ps ++ (xrollL r.h r.qs ++ ([blkC A ga 25, blkC B hb 27] ++ (OT T i ++ (bookL b vi' (LI ++ [(x1, l1), (y1, l2)]) vt LT ++ Z))))) w' := H.out.perm (by
      have := perm_by 9 [rollL r.g r.ps, xrollL r.h r.qs, bookC b vi' ((LI ++ [(x1, l1), (y1, l2)]).map Prod.fst) vt (LT.map Prod.fst), [tpart (x1, l1), tpart (y1, l2)], [blkC A ga 25, blkC B hb 27], OT T i, LI.map tpart, LT.map bpart, Z] [0, 1, 4, 5, 2, 6, 3, 7, 8] rfl (by decide)
      simpa [List.getD, bookL, List.append_assoc] using this)
    have h4 := h3.perm (duo_in (r' := r) hT)
    rw [setT_same hT] at h4
    exact h4

theorem kbytes3 (h : All (duoG A B ga hb T ++ (bookL b vi LI vt LT ++ Z)) w) (hT : T[i]? = some r) (tw : Twin r.ps r.qs) (hl : LT.length ≤ 100000000) (hs : ∀ e ∈ LT, e.2.length ≤ 1000) (cl : Int) :
    Calls Try.prog 16 #[.pointer (some ⟨b, 0, none⟩), .pointer (some ⟨r.g, 0, none⟩), .pointer (some ⟨r.h, 0, none⟩), .int .i64 cl] w fun e w' => e = .returned (.bool true) ∧ ∃ vt' LT', Hid (LT'.length = LT.length + 2 ∧ (∀ e ∈ LT', e.2.length ≤ 1000) ∧ All (duoG A B ga hb T ++ (bookL b vi LI vt' LT' ++ Z)) w') := by
  have h1 := h.perm (duo_out hT)
  have h2 : All (rollL r.g r.ps ++ (xrollL r.h r.qs ++ (bookC b vi (LI.map Prod.fst) vt (LT.map Prod.fst) ++ ([blkC A ga 25, blkC B hb 27] ++ (OT T i ++ (LI.map tpart ++ (LT.map bpart ++ Z))))))) w := h1.perm (by
    have := perm_by 8 [rollL r.g r.ps, xrollL r.h r.qs, [blkC A ga 25, blkC B hb 27], OT T i, bookC b vi (LI.map Prod.fst) vt (LT.map Prod.fst), LI.map tpart, LT.map bpart, Z] [0, 1, 4, 2, 3, 5, 6, 7] rfl (by decide)
    simpa [List.getD, bookL, List.append_assoc] using this)
  refine (kbytes_any tw h2 (by simpa using hl) cl).mono ?_
  rintro e w' ⟨rfl, vt', x1, l1, y1, l2, ⟨b1, b2⟩, H⟩
  refine ⟨rfl, vt', LT ++ [(x1, l1), (y1, l2)], hid ⟨by simp, ?_, ?_⟩⟩
  · intro e he
    simp only [List.mem_append, List.mem_cons, List.not_mem_nil, or_false] at he
    rcases he with he | rfl | rfl
    · exact hs e he
    · exact b1
    · exact b2
  · have h3 : All (rollL r.g r.ps ++ (xrollL r.h r.qs ++ ([blkC A ga 25, blkC B hb 27] ++ (OT T i ++ (bookL b vi LI vt' (LT ++ [(x1, l1), (y1, l2)]) ++ Z))))) w' := H.out.perm (by
      have := perm_by 9 [rollL r.g r.ps, xrollL r.h r.qs, bookC b vi (LI.map Prod.fst) vt' ((LT ++ [(x1, l1), (y1, l2)]).map Prod.fst), [bpart (x1, l1), bpart (y1, l2)], [blkC A ga 25, blkC B hb 27], OT T i, LI.map tpart, LT.map bpart, Z] [0, 1, 4, 5, 2, 6, 7, 3, 8] rfl (by decide)
      simpa [List.getD, bookL, List.append_assoc] using this)
    have h4 := h3.perm (duo_in (r' := r) hT)
    rw [setT_same hT] at h4
    exact h4

theorem set3 {cl n a c k : Int} {s : Value} {l : List ByteArray} (h : All (duoG A B ga hb T ++ Z) w) (hT : T[i]? = some r) (h8 : r.ps.length = 8) (hX : Txts w s l) (hl : l.length ≤ 9223372036854775807) :
    Calls Try.prog 12 #[.pointer (some ⟨r.g, 0, none⟩), .int .i64 cl, rowV n a c k s] w fun e w' => e = .returned (.int .i64 (setE r.ps cl n a c k l)) ∧ ∃ ps', Hid (All (duoG A B ga hb (T.set i { r with ps := ps' }) ++ Z) w' ∧ ((setE r.ps cl n a c k l ≠ 0 ∧ ps' = r.ps) ∨ (setE r.ps cl n a c k l = 0 ∧ ∃ s', ps' = r.ps.set cl.toNat ⟨true, n, a, c, k, s', l⟩))) := by
  refine (set_any (h.perm (duo_out hT)) h8 hX hl).mono ?_
  rintro e w' ⟨rfl, ps', hA, hcase⟩
  exact ⟨rfl, ps', hid ⟨hA.perm (duo_in (r' := { r with ps := ps' }) hT), hcase⟩⟩

theorem xset3 {cl n a c k : Int} {s : Value} {l : List ByteArray} (h : All (duoG A B ga hb T ++ Z) w) (hT : T[i]? = some r) (h8 : r.qs.length = 8) (hX : ∀ w', All Z w' → Txts w' s l) (hl : l.length ≤ 9223372036854775807) :
    Calls Try.prog 14 #[.pointer (some ⟨r.h, 0, none⟩), .int .i64 cl, rowV n a c k s] w fun e w' => e = .returned (.int .i64 (setE r.qs cl n a c k l)) ∧ ∃ qs', Hid (All (duoG A B ga hb (T.set i { r with qs := qs' }) ++ Z) w' ∧ ((setE r.qs cl n a c k l ≠ 0 ∧ qs' = r.qs) ∨ (setE r.qs cl n a c k l = 0 ∧ ∃ s', qs' = r.qs.set cl.toNat ⟨true, n, a, c, k, s', l⟩))) := by
  have h1 : All (xrollL r.h r.qs ++ (rollL r.g r.ps ++ ([blkC A ga 25, blkC B hb 27] ++ (OT T i ++ Z)))) w := (h.perm (duo_out hT)).perm (List.perm_append_comm_assoc _ _ _)
  refine (xset_any h1 h8 (fun w' hw => hX w' (hw.sublist ((List.sublist_append_right _ _).trans ((List.sublist_append_right _ _).trans (List.sublist_append_right _ _))))) hl).mono ?_
  rintro e w' ⟨rfl, qs', H⟩
  exact ⟨rfl, qs', hid ⟨(H.out.1.perm (List.perm_append_comm_assoc _ _ _)).perm (duo_in (r' := { r with qs := qs' }) hT), H.out.2⟩⟩

theorem clone3 (h : All (duoG A B ga hb T ++ Z) w) (hT : T[i]? = some r) (hok : OkP r.ps) :
    Calls Try.prog 17 #[.pointer (some ⟨r.g, 0, none⟩)] w fun e w' => ∃ K ss, e = .returned (.pointer (some ⟨K, 0, none⟩)) ∧ Hid (ss.length = 8 ∧ All (rollL K (List.zipWith withS r.ps ss) ++ (duoG A B ga hb T ++ Z)) w') := by
  refine (rclone_any (h.perm (duo_out hT)) hok.1 hok.few).mono ?_
  rintro e w' ⟨K, ss, rfl, H⟩
  exact ⟨K, ss, rfl, hid ⟨H.out.1, H.out.2.perm ((duo_out hT).symm.append_left _)⟩⟩

theorem xclone3 {Y : List Comp} (h : All (Y ++ (duoG A B ga hb T ++ Z)) w) (hT : T[i]? = some r) (hok : OkP r.qs) :
    Calls Try.prog 18 #[.pointer (some ⟨r.h, 0, none⟩)] w fun e w' => ∃ K ss, e = .returned (.pointer (some ⟨K, 0, none⟩)) ∧ Hid (ss.length = 8 ∧ All (xrollL K (List.zipWith withS r.qs ss) ++ (Y ++ (duoG A B ga hb T ++ Z))) w') := by
  have p : (Y ++ (duoG A B ga hb T ++ Z)).Perm (xrollL r.h r.qs ++ (Y ++ (rollL r.g r.ps ++ ([blkC A ga 25, blkC B hb 27] ++ (OT T i ++ Z))))) := by
    refine ((duo_out hT).append_left Y).trans ?_
    have := perm_by 4 [Y, rollL r.g r.ps, xrollL r.h r.qs, [blkC A ga 25, blkC B hb 27] ++ (OT T i ++ Z)] [2, 0, 1, 3] rfl (by decide)
    simpa [List.getD, List.append_assoc] using this
  refine (xclone_any (h.perm p) hok.1 hok.few).mono ?_
  rintro e w' ⟨K, ss, rfl, H⟩
  exact ⟨K, ss, rfl, hid ⟨H.out.1, H.out.2.perm (p.symm.append_left _)⟩⟩

theorem rows3 (h : All (duoG A B ga hb T ++ Z) w) (hT : T[i]? = some r) (hok : OkP r.ps) :
    Calls Try.prog 19 #[.pointer (some ⟨r.g, 0, none⟩)] w fun e w' => ∃ (so : Option Addr) (sc : Nat) (bl : List (Value × List UInt8)), e = .returned (.slice so 8 sc) ∧ Hid (bl.map Prod.snd = r.ps.map Pl.bytes ∧ All (ownC 40 (.slice so 8 sc) (bl.map Prod.fst) :: (bl.map bpart ++ (duoG A B ga hb T ++ Z))) w') := by
  refine (rows_any (h.perm (duo_out hT)) hok).mono ?_
  rintro e w' ⟨so, sc, bl, rfl, h1, h2, H⟩
  exact ⟨so, sc, bl, rfl, hid ⟨h1, H.perm (((duo_out hT).symm.append_left _).cons _)⟩⟩
end
end Go.Proofs.Ytagdpfghooogfaa

namespace Go.Proofs.Ytagdpfghooogfaa
theorem Try.own : ownKnob Try.prog.godebug = none := by kernel_rfl
theorem Try.laidOut : laidOutB Try.prog = true := by kernel_rfl
end Go.Proofs.Ytagdpfghooogfaa

namespace Go.Proofs.Ytagdpfghooogfaa
open Go.ChangeShapes Go.WideShapes Go.ChangeAt Go.RowKit Go.Deep Go.Joins
set_option linter.unusedVariables false

theorem Try.cellsOf3 : Try.prog.cellsOf 3 = 1 := by kernel_rfl
theorem Try.cellsOf9 : Try.prog.cellsOf 9 = 1 := by kernel_rfl
theorem Try.cellsOf35 : Try.prog.cellsOf 35 = 1 := by kernel_rfl
theorem Try.cellsOf37 : Try.prog.cellsOf 37 = 3 := by kernel_rfl
theorem Try.cellsOf39 : Try.prog.cellsOf 39 = 5 := by kernel_rfl

theorem i64_wf {n : Int} (h : (Lit.int .i64 n).wf = true) : -9223372036854775808 ≤ n ∧ n < 9223372036854775808 := by
  have : -9223372036854775808 ≤ n ∧ n ≤ 9223372036854775807 := by simpa [Lit.wf, IntKind.min, IntKind.max, IntKind.signed, IntKind.bits] using h
  omega
theorem list3 {l : List Value} {a b c : Value} (hl : l.length = 3) (h0 : (l.drop 0).take 1 = [a]) (h1 : (l.drop 1).take 1 = [b]) (h2 : (l.drop 2).take 1 = [c]) : l = [a, b, c] := by
  match l, hl with
  | [x0, x1, x2], _ => simp at h0 h1 h2; simp [h0, h1, h2]
theorem list5' {l : List Value} {a b c d e : Value} (hl : l.length = 5) (h0 : (l.drop 0).take 1 = [a]) (h1 : (l.drop 1).take 1 = [b]) (h2 : (l.drop 2).take 3 = [c, d, e]) : l = [a, b, c, d, e] := by
  match l, hl with
  | [x0, x1, x2, x3, x4], _ => simp at h0 h1 h2; simp [h0, h1, h2]
theorem nth {α : Type} {l : List α} {n i : Nat} (hl : l.length = n) (hi : i < n) : ∃ y, l[i]? = some y := ⟨_, List.getElem?_eq_getElem (by omega)⟩

theorem spot_of {a : Addr} {W : World} {u : Value} (h : W.cell? (a.add 0) = some u) : a.spot = none ∧ a.block < W.heap.size := by
  have h1 := World.cell?_spot h
  have h2 := World.block_lt_of_cell? W _ h
  exact ⟨by simpa [Addr.add] using h1, by simpa [Addr.add] using h2⟩

section
variable {H : Type} {enc : TypeId × Value → H} {W : World} {fuel : Nat} {cs : List Value} {x : DataW H × List MemPlace}

/-- Texts that came in. -/
theorem texts_cells (h : DataW.trod enc Try.prog W 0 (fun _ => true) true fuel 35 cs = some x) : ∃ s l, cs = [s] ∧ Txts W s l ∧ l.length ≤ maxLen := by
  rcases open_strs Try.underlying35 Try.underlying9 Try.cellsOf9 h with ⟨rfl, _⟩ | ⟨a, len, cap, m, Sx, rfl, _, hl, hm, hmm, _, hc⟩
  · exact ⟨_, [], rfl, ⟨none, 0, rfl, by simp, Or.inl rfl⟩, by simp⟩
  · have hlm : len ≤ m := by rw [hmm]; split <;> omega
    refine ⟨_, (List.range len).map Sx, rfl, ⟨some a, cap, by simp, by simpa using hl, ?_⟩, by simp; omega⟩
    by_cases h0 : len = 0
    · left; subst h0; rfl
    · right
      have hc0 := (hc 0 (by omega)).1
      have hsp : a.spot = none := by
        have := World.cell?_spot hc0
        simpa [Addr.add] using this
      obtain ⟨b, off, sp'⟩ := a
      simp only at hsp
      subst hsp
      refine ⟨b, off, rfl, ?_, fun j hj => ?_⟩
      · have := World.block_lt_of_cell? W _ hc0
        simpa [Addr.add] using this
      · have hj' : j < len := by simpa using hj
        have h1 := (hc j (by omega)).1
        rw [Addr.add_lit] at h1
        rw [h1]
        simp

set_option maxRecDepth 100000 in
theorem res_cells (h : DataW.trod enc Try.prog W 0 (fun _ => true) true fuel 37 cs = some x) : ∃ c n s l, cs = [.int .i64 c, .int .i64 n, s] ∧ Txts W s l ∧ l.length ≤ maxLen := by
  obtain ⟨xs, f, _, rfl, hl, hlen, hf⟩ := DataW.trod_struct Try.underlying37 h
  have hlen : xs.length = 3 := hlen
  obtain ⟨y0, hy0⟩ := nth hlen (i := 0) (by omega)
  obtain ⟨y1, hy1⟩ := nth hlen (i := 1) (by omega)
  obtain ⟨y2, hy2⟩ := nth hlen (i := 2) (by omega)
  have g0 : DataW.trod enc Try.prog W 0 (fun _ => true) true f 3 ((cs.drop 0).take (Try.prog.cellsOf 3)) = some y0 := (hf 0 _ rfl).trans hy0
  have g1 : DataW.trod enc Try.prog W 0 (fun _ => true) true f 3 ((cs.drop 1).take (Try.prog.cellsOf 3)) = some y1 := (hf 1 _ rfl).trans hy1
  have g2 : DataW.trod enc Try.prog W 0 (fun _ => true) true f 35 ((cs.drop 2).take (Try.prog.cellsOf 35)) = some y2 := (hf 2 _ rfl).trans hy2
  rw [Try.cellsOf3] at g0 g1
  rw [Try.cellsOf35] at g2
  rw [Try.cellsOf37] at hl
  obtain ⟨c, e0, r0, w0⟩ := DataW.trod_int Try.underlying3 g0
  obtain ⟨n, e1, r1, w1⟩ := DataW.trod_int Try.underlying3 g1
  obtain ⟨s, l, e2, ht, hl2⟩ := texts_cells g2
  exact ⟨c, n, s, l, list3 hl e0 e1 e2, ht, hl2⟩

def Rw0.cells (x : Rw0) : List Value := [.int .i64 x.n, .int .i64 x.a, .int .i64 x.c, .int .i64 x.k, x.s]

set_option maxRecDepth 100000 in
theorem row_cells (h : DataW.trod enc Try.prog W 0 (fun _ => true) true fuel 39 cs = some x) : ∃ e : Rw0, cs = e.cells ∧ Txts W e.s e.l ∧ e.l.length ≤ maxLen := by
  obtain ⟨xs, f, _, rfl, hl, hlen, hf⟩ := DataW.trod_struct Try.underlying39 h
  have hlen : xs.length = 3 := hlen
  obtain ⟨y0, hy0⟩ := nth hlen (i := 0) (by omega)
  obtain ⟨y1, hy1⟩ := nth hlen (i := 1) (by omega)
  obtain ⟨y2, hy2⟩ := nth hlen (i := 2) (by omega)
  have g0 : DataW.trod enc Try.prog W 0 (fun _ => true) true f 3 ((cs.drop 0).take (Try.prog.cellsOf 3)) = some y0 := (hf 0 _ rfl).trans hy0
  have g1 : DataW.trod enc Try.prog W 0 (fun _ => true) true f 3 ((cs.drop 1).take (Try.prog.cellsOf 3)) = some y1 := (hf 1 _ rfl).trans hy1
  have g2 : DataW.trod enc Try.prog W 0 (fun _ => true) true f 37 ((cs.drop 2).take (Try.prog.cellsOf 37)) = some y2 := (hf 2 _ rfl).trans hy2
  rw [Try.cellsOf3] at g0 g1
  rw [Try.cellsOf37] at g2
  rw [Try.cellsOf39] at hl
  obtain ⟨n, e0, r0, w0⟩ := DataW.trod_int Try.underlying3 g0
  obtain ⟨a, e1, r1, w1⟩ := DataW.trod_int Try.underlying3 g1
  obtain ⟨c, k, s, l, e2, ht, hl2⟩ := res_cells g2
  exact ⟨⟨n, a, c, k, s, l⟩, list5' hl e0 e1 e2, ht, hl2⟩

set_option maxRecDepth 100000 in
/-- Rows that came in. -/
theorem open_rows {v : Value} {d : DataW H} {p : List MemPlace} (h : DataW.Trod enc Try.prog W 0 (fun _ => true) true 56 v d p) (hv : ∃ a l c, v = .slice a l c) :
    ∃ xs, RowsAt W v xs ∧ xs.length ≤ maxLen := by
  obtain ⟨fuel, hf⟩ := h
  obtain ⟨a0, l0, c0, rfl⟩ := hv
  rcases open_slice Try.underlying56 hf with ⟨hcs, hx⟩ | ⟨a, len, cap, m, n, D, Pl, hcs, _, hl, hm, hmm, hx, hel⟩
  · simp [Value.cells] at hcs
    obtain ⟨rfl, rfl, rfl⟩ := hcs
    exact ⟨[], ⟨none, 0, rfl, fun i x hx => by simp at hx⟩, by simp⟩
  · simp [Value.cells] at hcs
    obtain ⟨rfl, rfl, rfl⟩ := hcs
    have hlm : l0 ≤ m := by rw [hmm]; split <;> omega
    have each : ∀ i, i < l0 → ∃ x : Rw0, (Txts W x.s x.l ∧ x.l.length ≤ maxLen) ∧ ∀ j u, x.cells[j]? = some u → W.cell? (a.add (i * 5 + j)) = some u := by
      intro i hi
      obtain ⟨cs', h1, h2⟩ := hel i (by omega)
      rw [Try.cellsOf39] at h1
      obtain ⟨_, hlen, hcell⟩ := World.cells?_some h1
      obtain ⟨e, rfl, hr, hok⟩ := row_cells h2
      refine ⟨e, ⟨hr, hok⟩, fun j u hu => ?_⟩
      have hj : j < 5 := by
        have := (List.getElem?_eq_some_iff.1 hu).1
        simpa [Rw0.cells] using this
      have q := hcell j (by omega)
      rw [add_add] at q
      rw [q, ← hu]
    haveI : Inhabited Rw0 := ⟨⟨0, 0, 0, 0, .slice none 0 0, []⟩⟩
    obtain ⟨f, hf'⟩ := choose_lt each
    refine ⟨(List.range l0).map f, ⟨some a, c0, by simp, fun i x hx => ?_⟩, by simp; omega⟩
    have hi : i < l0 := by
      have := (List.getElem?_eq_some_iff.1 hx).1
      simpa using this
    obtain rfl : f i = x := by
      rw [List.getElem?_map, List.getElem?_range hi] at hx
      simpa using hx
    obtain ⟨⟨ht, hlen⟩, hcell⟩ := hf' i hi
    refine ⟨by unfold maxLen at hlen; omega, ?_⟩
    have h00 := (hf' 0 (by omega)).2 0 _ rfl
    obtain ⟨hsp, hb⟩ := spot_of (by simpa using h00)
    obtain ⟨b, off, sp⟩ := a
    simp only at hsp
    subst hsp
    refine ⟨b, off, rfl, hb, ?_, ?_, ?_, ?_, ?_, ht⟩
    · have := hcell 0 _ rfl; rw [Addr.add_lit] at this; exact this
    · have := hcell 1 _ rfl; rw [Addr.add_lit] at this; exact this
    · have := hcell 2 _ rfl; rw [Addr.add_lit] at this; exact this
    · have := hcell 3 _ rfl; rw [Addr.add_lit] at this; exact this
    · have := hcell 4 _ rfl; rw [Addr.add_lit] at this; exact this

set_option maxRecDepth 100000 in
/-- Numbers that came in. -/
theorem open_ints {v : Value} {d : DataW H} {p : List MemPlace} (h : DataW.Trod enc Try.prog W 0 (fun _ => true) true 55 v d p) (hv : ∃ a l c, v = .slice a l c) :
    ∃ zs, IntsAt W v zs ∧ zs.length ≤ maxLen := by
  obtain ⟨fuel, hf⟩ := h
  obtain ⟨a0, l0, c0, rfl⟩ := hv
  rcases open_slice Try.underlying55 hf with ⟨hcs, hx⟩ | ⟨a, len, cap, m, n, D, Pl, hcs, _, hl, hm, hmm, hx, hel⟩
  · simp [Value.cells] at hcs
    obtain ⟨rfl, rfl, rfl⟩ := hcs
    exact ⟨[], ⟨none, 0, rfl, fun i x hx => by simp at hx⟩, by simp⟩
  · simp [Value.cells] at hcs
    obtain ⟨rfl, rfl, rfl⟩ := hcs
    have hlm : l0 ≤ m := by rw [hmm]; split <;> omega
    have each : ∀ i, i < l0 → ∃ x : Int, (-9223372036854775808 ≤ x ∧ x < 9223372036854775808) ∧ W.cell? (a.add i) = some (.int .i64 x) := by
      intro i hi
      obtain ⟨cs', h1, h2⟩ := hel i (by omega)
      rw [Try.cellsOf3] at h1
      obtain ⟨_, hlen, hcell⟩ := World.cells?_some h1
      obtain ⟨k, e0, r0, w0⟩ := DataW.trod_int Try.underlying3 h2
      subst e0
      refine ⟨k, i64_wf w0, ?_⟩
      have q := hcell 0 (by omega)
      rw [add_add] at q
      simpa using q
    obtain ⟨f, hf'⟩ := choose_lt each
    refine ⟨(List.range l0).map f, ⟨some a, c0, by simp, fun i x hx => ?_⟩, by simp; omega⟩
    have hi : i < l0 := by
      have := (List.getElem?_eq_some_iff.1 hx).1
      simpa using this
    obtain rfl : f i = x := by
      rw [List.getElem?_map, List.getElem?_range hi] at hx
      simpa using hx
    obtain ⟨⟨h1, h2⟩, hcell⟩ := hf' i hi
    refine ⟨h1, h2, ?_⟩
    obtain ⟨hsp, hb⟩ := spot_of (hf' 0 (by omega)).2
    obtain ⟨b, off, sp⟩ := a
    simp only at hsp
    subst hsp
    refine ⟨b, off, rfl, hb, ?_⟩
    have := hcell; rw [Addr.add_lit] at this; exact this
end
end Go.Proofs.Ytagdpfghooogfaa

namespace Go.Proofs.Ytagdpfghooogfaa
open Go.ChangeShapes Go.WideShapes Go.ChangeAt Go.RowKit Go.Deep Go.Joins
set_option linter.unusedVariables false

theorem Try.cells5 : Try.prog.cellsOf 5 = 1 := by kernel_rfl
theorem Try.cells40 : Try.prog.cellsOf 40 = 1 := by kernel_rfl

theorem u8_wf {n : Int} (h : (Lit.int .u8 n).wf = true) : 0 ≤ n ∧ n < 256 := by
  have : 0 ≤ n ∧ n ≤ 255 := by simpa [Lit.wf, IntKind.min, IntKind.max, IntKind.signed, IntKind.bits] using h
  omega

theorem bulk_lits {H : Type} (k : IntKind) (zs : List Int) : Rows.uptoBulkAll (lits (H := H) k zs) = zs.length := by
  induction zs with
  | nil => rfl
  | cons z r ih =>
    simp only [lits, List.map_cons, Rows.uptoBulkAll, Rows.uptoBulk, List.length_cons] at ih ⊢
    omega

/-- Bytes that came in. -/
theorem open_bytes {H : Type} {enc : TypeId × Value → H} {W : World} {v : Value} {d : DataW H} {p : List MemPlace} (h : DataW.Trod enc Try.prog W 0 (fun _ => true) true 40 v d p) (hv : ∃ a l c, v = .slice a l c) :
    ∃ l, ReadsW W v l ∧ l.length ≤ Rows.uptoBulk d := by
  obtain ⟨fuel, hf⟩ := h
  obtain ⟨a0, l0, c0, rfl⟩ := hv
  rcases open_ints Try.underlying40 Try.underlying5 Try.cells5 hf with ⟨hcs, hx⟩ | ⟨a, len, cap, zs, hcs, _, hl, hm, hz, hx, hcell, hwz⟩
  · simp [Value.cells] at hcs
    obtain ⟨rfl, rfl, rfl⟩ := hcs
    exact ⟨[], .inl ⟨none, 0, rfl, by simp, .inl ⟨rfl, rfl, rfl⟩⟩, by simp⟩
  · simp [Value.cells] at hcs
    obtain ⟨rfl, rfl, rfl⟩ := hcs
    simp only [if_true] at hz
    simp only [Prod.mk.injEq] at hx
    obtain ⟨rfl, _⟩ := hx
    have hlz : ((zs.take l0).map fun z => UInt8.ofNat z.toNat).length = l0 := by simp; omega
    refine ⟨(zs.take l0).map fun z => UInt8.ofNat z.toNat, ?_, ?_⟩
    · by_cases h0 : l0 = 0
      · subst h0
        exact .inr ⟨by simp, a, c0, rfl⟩
      · have hc0 := hcell 0 (by omega)
        have hsp : a.spot = none := by
          have := World.cell?_spot hc0
          simpa [Addr.add] using this
        obtain ⟨b, off, sp⟩ := a
        simp only at hsp
        subst hsp
        refine .inl ⟨_, c0, by rw [hlz], by rw [hlz]; exact hl, Or.inr ⟨b, off, rfl, ?_, fun j u hu => ?_⟩⟩
        · have := World.block_lt_of_cell? W _ hc0
          simpa [Addr.add] using this
        · have hj : j < l0 := by
            have := (List.getElem?_eq_some_iff.1 hu).1
            rw [cellsB_length, hlz] at this
            exact this
          have hjz : j < zs.length := by omega
          have hc := hcell j hjz
          rw [Addr.add_lit] at hc
          rw [hc, ← hu]
          have hw := u8_wf (hwz zs[j] (List.getElem_mem hjz))
          have e : ((UInt8.ofNat zs[j].toNat).toNat : Int) = zs[j] := by
            rw [UInt8.toNat_ofNat']
            omega
          simp only [cellsB, List.getElem?_map, List.getElem?_take, hj, if_true, List.getElem?_eq_getElem hjz, Option.map_some, List.getD, Option.getD_some, e]
    · rw [hlz]
      have h1 := bulk_lits (H := H) .u8 (zs.take l0)
      simp only [Rows.uptoBulk, h1, List.length_take]
      omega

theorem bulk_one {H : Type} (d : DataW H) : 1 ≤ Rows.uptoBulk d := by
  cases d with
  | lit l => cases l <;> simp [Rows.uptoBulk]
  | _ => simp [Rows.uptoBulk]

theorem bulk_count {H : Type} (ds : List (DataW H)) : ds.length ≤ Rows.uptoBulkAll ds := by
  induction ds with
  | nil => simp
  | cons d r ih =>
    have := bulk_one d
    simp only [List.length_cons, Rows.uptoBulkAll]
    omega

theorem bulk_mem {H : Type} {d : DataW H} {ds : List (DataW H)} (h : d ∈ ds) : Rows.uptoBulk d ≤ Rows.uptoBulkAll ds := by
  induction ds with
  | nil => simp at h
  | cons a r ih =>
    simp only [Rows.uptoBulkAll]
    rcases List.mem_cons.1 h with rfl | h
    · omega
    · have := ih h
      omega

theorem one_bytes {H : Type} {enc : TypeId × Value → H} {W : World} {n : Nat} {cs : List Value} {d : DataW H} {p : List MemPlace} (h : DataW.trod enc Try.prog W 0 (fun _ => true) true n 40 cs = some (d, p)) : ∃ u l, cs = [u] ∧ ReadsW W u l ∧ l.length ≤ Rows.uptoBulk d := by
  have hcs : ∃ a l c, cs = [.slice a l c] := by
    rcases open_ints Try.underlying40 Try.underlying5 Try.cells5 h with ⟨hcs, _⟩ | ⟨a, len, cap, zs, hcs, _⟩
    · exact ⟨_, _, _, hcs⟩
    · exact ⟨_, _, _, hcs⟩
  obtain ⟨a, l, c, rfl⟩ := hcs
  obtain ⟨b, h1, h2⟩ := open_bytes (enc := enc) (v := .slice a l c) ⟨n, h⟩ ⟨a, l, c, rfl⟩
  exact ⟨_, b, rfl, h1, h2⟩

/-- Lists of bytes that came in. -/
theorem open_lists {H : Type} {enc : TypeId × Value → H} {W : World} {v : Value} {d : DataW H} {p : List MemPlace} (h : DataW.Trod enc Try.prog W 0 (fun _ => true) true 32 v d p) (hv : ∃ a l c, v = .slice a l c) :
    ∃ ls, ListsW W v ls ∧ ls.length ≤ Rows.uptoBulk d ∧ ∀ l ∈ ls, l.length ≤ Rows.uptoBulk d := by
  obtain ⟨fuel, hf⟩ := h
  obtain ⟨a0, l0, c0, rfl⟩ := hv
  rcases open_slice Try.underlying32 hf with ⟨hcs, hx⟩ | ⟨a, len, cap, m, n, D, Pl, hcs, _, hl, hm, hmm, hx, hel⟩
  · simp [Value.cells] at hcs
    obtain ⟨rfl, rfl, rfl⟩ := hcs
    exact ⟨[], ⟨none, 0, rfl, fun j hj => by simp at hj⟩, by simp, by simp⟩
  · simp [Value.cells] at hcs
    obtain ⟨rfl, rfl, rfl⟩ := hcs
    have hlm : l0 ≤ m := by rw [hmm]; split <;> omega
    simp only [Prod.mk.injEq] at hx
    obtain ⟨rfl, _⟩ := hx
    have each : ∀ i, i < l0 → ∃ x : List UInt8, (∃ u, W.cell? (a.add i) = some u ∧ ReadsW W u x) ∧ x.length ≤ Rows.uptoBulk (D i) := by
      intro i hi
      obtain ⟨cs', h1, h2⟩ := hel i (by omega)
      rw [Try.cells40] at h1
      obtain ⟨_, hlen, hcell⟩ := World.cells?_some h1
      obtain ⟨u, l, rfl, h3, h4⟩ := one_bytes h2
      have q0 := hcell 0 (by simp)
      rw [add_add] at q0
      exact ⟨l, ⟨u, by simpa using q0, h3⟩, h4⟩
    obtain ⟨f, hf'⟩ := choose_lt each
    have hcnt := bulk_count ((List.range l0).map D)
    refine ⟨(List.range l0).map f, ⟨some a, c0, by simp, fun j hj => ?_⟩, ?_, ?_⟩
    · have hj' : j < l0 := by simpa using hj
      obtain ⟨u, hu, hr⟩ := (hf' j hj').1
      obtain ⟨u0, hu0, _⟩ := (hf' 0 (by omega)).1
      have hsp : a.spot = none := by
        have := World.cell?_spot hu0
        simpa [Addr.add] using this
      obtain ⟨b, off, sp⟩ := a
      simp only at hsp
      subst hsp
      refine ⟨b, off, u, rfl, ?_, ?_, ?_⟩
      · have := World.block_lt_of_cell? W _ hu0
        simpa [Addr.add] using this
      · rw [Addr.add_lit] at hu
        exact hu
      · simpa using hr
    · simp only [Rows.uptoBulk]
      simp at hcnt ⊢
      omega
    · intro x hx
      obtain ⟨i, hi, rfl⟩ := List.mem_map.1 hx
      have h1 := (hf' i (List.mem_range.1 hi)).2
      have h2 := bulk_mem (d := D i) (ds := (List.range l0).map D) (List.mem_map_of_mem hi)
      simp only [Rows.uptoBulk]
      omega
end Go.Proofs.Ytagdpfghooogfaa

namespace Go.Proofs.Ytagdpfghooogfaa
open Go.ChangeShapes Go.WideShapes Go.ChangeAt Go.RowKit Go.Deep Go.Joins
set_option linter.unusedVariables false

theorem Try.cellsOf40 : Try.prog.cellsOf 40 = 1 := by kernel_rfl
theorem Try.cellsOf42 : Try.prog.cellsOf 42 = 10 := by kernel_rfl

/-- A step that is handed in. -/
structure St0 where
  kd : Int
  on : Int
  to : Int
  cl : Int
  n : Int
  a : Int
  c : Int
  k : Int
  s : Value
  l : List ByteArray
  dv : Value
  data : List UInt8
def St0.cells (x : St0) : List Value := [.int .i64 x.kd, .int .i64 x.on, .int .i64 x.to, .int .i64 x.cl, .int .i64 x.n, .int .i64 x.a, .int .i64 x.c, .int .i64 x.k, x.s, x.dv]
def i64In (z : Int) : Prop := -9223372036854775808 ≤ z ∧ z < 9223372036854775808
structure St0.good (w : World) (x : St0) (B : Nat) : Prop where
  on : i64In x.on
  to : i64In x.to
  cl : i64In x.cl
  txt : Txts w x.s x.l
  rd : ReadsW w x.dv x.data
  fewT : x.l.length ≤ B
  fewB : x.data.length ≤ B
def StepsAt (w : World) (v : Value) (xs : List St0) : Prop :=
  ∃ ao cp, v = .slice ao xs.length cp ∧ ∀ i x, xs[i]? = some x → x.good w 1048576 ∧ ∃ g o, ao = some ⟨g, o, none⟩ ∧ g < w.heap.size ∧ ∀ j u, x.cells[j]? = some u → w.cell? ⟨g, o + (i * 10 + j), none⟩ = some u

section
variable {H : Type} {enc : TypeId × Value → H} {W : World} {fuel : Nat} {cs : List Value} {x : DataW H × List MemPlace}

theorem bulk_strs {H : Type} (f : Nat → ByteArray) (n : Nat) : n ≤ Rows.uptoBulkAll ((List.range n).map fun i => (.lit (.string (f i).data.toList) : DataW H)) := by
  have := bulk_count ((List.range n).map fun i => (.lit (.string (f i).data.toList) : DataW H))
  simpa using this

theorem texts_bulk (h : DataW.trod enc Try.prog W 0 (fun _ => true) true fuel 35 cs = some x) : ∃ s l, cs = [s] ∧ Txts W s l ∧ l.length ≤ Rows.uptoBulk x.1 := by
  obtain ⟨s, l, rfl, ht, _⟩ := texts_cells h
  refine ⟨s, l, rfl, ht, ?_⟩
  obtain ⟨ao, c, e, _⟩ := ht
  rcases open_strs Try.underlying35 Try.underlying9 Try.cellsOf9 h with ⟨hc, _⟩ | ⟨a, len, cap, m, Sx, hc, _, hl, hm, hmm, hx, _⟩
  · rw [e] at hc
    simp at hc
    rw [hc.2.1]
    simp
  · rw [e] at hc
    simp at hc
    rw [hx]
    have := bulk_strs (H := H) Sx len
    simp only [Rows.uptoBulk]
    omega

theorem agg_mem {y : DataW H × List MemPlace} {xs : List (DataW H × List MemPlace)} (h : y ∈ xs) : Rows.uptoBulk y.1 ≤ Rows.uptoBulk (.agg (xs.map (·.1)) : DataW H) := by
  have := bulk_mem (List.mem_map_of_mem (f := fun z : DataW H × List MemPlace => z.1) h)
  simp only [Rows.uptoBulk]
  omega

set_option maxRecDepth 100000 in
theorem res_bulk (h : DataW.trod enc Try.prog W 0 (fun _ => true) true fuel 37 cs = some x) : ∃ c n s l, cs = [.int .i64 c, .int .i64 n, s] ∧ Txts W s l ∧ l.length ≤ Rows.uptoBulk x.1 := by
  obtain ⟨xs, f, _, rfl, hl, hlen, hf⟩ := DataW.trod_struct Try.underlying37 h
  have hlen : xs.length = 3 := hlen
  obtain ⟨y0, hy0⟩ := nth hlen (i := 0) (by omega)
  obtain ⟨y1, hy1⟩ := nth hlen (i := 1) (by omega)
  obtain ⟨y2, hy2⟩ := nth hlen (i := 2) (by omega)
  have g0 : DataW.trod enc Try.prog W 0 (fun _ => true) true f 3 ((cs.drop 0).take (Try.prog.cellsOf 3)) = some y0 := (hf 0 _ rfl).trans hy0
  have g1 : DataW.trod enc Try.prog W 0 (fun _ => true) true f 3 ((cs.drop 1).take (Try.prog.cellsOf 3)) = some y1 := (hf 1 _ rfl).trans hy1
  have g2 : DataW.trod enc Try.prog W 0 (fun _ => true) true f 35 ((cs.drop 2).take (Try.prog.cellsOf 35)) = some y2 := (hf 2 _ rfl).trans hy2
  rw [Try.cellsOf3] at g0 g1
  rw [Try.cellsOf35] at g2
  rw [Try.cellsOf37] at hl
  obtain ⟨c, e0, r0, w0⟩ := DataW.trod_int Try.underlying3 g0
  obtain ⟨n, e1, r1, w1⟩ := DataW.trod_int Try.underlying3 g1
  obtain ⟨s, l, e2, ht, hl2⟩ := texts_bulk g2
  exact ⟨c, n, s, l, list3 hl e0 e1 e2, ht, Nat.le_trans hl2 (agg_mem (List.mem_of_getElem? hy2))⟩

set_option maxRecDepth 100000 in
theorem row_bulk (h : DataW.trod enc Try.prog W 0 (fun _ => true) true fuel 39 cs = some x) : ∃ e : Rw0, cs = e.cells ∧ Txts W e.s e.l ∧ e.l.length ≤ Rows.uptoBulk x.1 := by
  obtain ⟨xs, f, _, rfl, hl, hlen, hf⟩ := DataW.trod_struct Try.underlying39 h
  have hlen : xs.length = 3 := hlen
  obtain ⟨y0, hy0⟩ := nth hlen (i := 0) (by omega)
  obtain ⟨y1, hy1⟩ := nth hlen (i := 1) (by omega)
  obtain ⟨y2, hy2⟩ := nth hlen (i := 2) (by omega)
  have g0 : DataW.trod enc Try.prog W 0 (fun _ => true) true f 3 ((cs.drop 0).take (Try.prog.cellsOf 3)) = some y0 := (hf 0 _ rfl).trans hy0
  have g1 : DataW.trod enc Try.prog W 0 (fun _ => true) true f 3 ((cs.drop 1).take (Try.prog.cellsOf 3)) = some y1 := (hf 1 _ rfl).trans hy1
  have g2 : DataW.trod enc Try.prog W 0 (fun _ => true) true f 37 ((cs.drop 2).take (Try.prog.cellsOf 37)) = some y2 := (hf 2 _ rfl).trans hy2
  rw [Try.cellsOf3] at g0 g1
  rw [Try.cellsOf37] at g2
  rw [Try.cellsOf39] at hl
  obtain ⟨n, e0, r0, w0⟩ := DataW.trod_int Try.underlying3 g0
  obtain ⟨a, e1, r1, w1⟩ := DataW.trod_int Try.underlying3 g1
  obtain ⟨c, k, s, l, e2, ht, hl2⟩ := res_bulk g2
  exact ⟨⟨n, a, c, k, s, l⟩, list5' hl e0 e1 e2, ht, Nat.le_trans hl2 (agg_mem (List.mem_of_getElem? hy2))⟩

theorem list10 {l : List Value} {a b c d f : Value} {e : List Value} (he : e.length = 5) (hl : l.length = 10) (h0 : (l.drop 0).take 1 = [a]) (h1 : (l.drop 1).take 1 = [b]) (h2 : (l.drop 2).take 1 = [c]) (h3 : (l.drop 3).take 1 = [d]) (h4 : (l.drop 4).take 5 = e) (h9 : (l.drop 9).take 1 = [f]) : l = [a, b, c, d] ++ e ++ [f] := by
  match l, hl with
  | [x0, x1, x2, x3, x4, x5, x6, x7, x8, x9], _ => simp at h0 h1 h2 h3 h4 h9; simp [h0, h1, h2, h3, ← h4, h9]

set_option maxRecDepth 100000 in
theorem step_cells (h : DataW.trod enc Try.prog W 0 (fun _ => true) true fuel 42 cs = some x) : ∃ e : St0, cs = e.cells ∧ e.good W (Rows.uptoBulk x.1) := by
  obtain ⟨xs, f, _, rfl, hl, hlen, hf⟩ := DataW.trod_struct Try.underlying42 h
  have hlen : xs.length = 6 := hlen
  obtain ⟨y0, hy0⟩ := nth hlen (i := 0) (by omega)
  obtain ⟨y1, hy1⟩ := nth hlen (i := 1) (by omega)
  obtain ⟨y2, hy2⟩ := nth hlen (i := 2) (by omega)
  obtain ⟨y3, hy3⟩ := nth hlen (i := 3) (by omega)
  obtain ⟨y4, hy4⟩ := nth hlen (i := 4) (by omega)
  obtain ⟨y5, hy5⟩ := nth hlen (i := 5) (by omega)
  have g0 : DataW.trod enc Try.prog W 0 (fun _ => true) true f 3 ((cs.drop 0).take (Try.prog.cellsOf 3)) = some y0 := (hf 0 _ rfl).trans hy0
  have g1 : DataW.trod enc Try.prog W 0 (fun _ => true) true f 3 ((cs.drop 1).take (Try.prog.cellsOf 3)) = some y1 := (hf 1 _ rfl).trans hy1
  have g2 : DataW.trod enc Try.prog W 0 (fun _ => true) true f 3 ((cs.drop 2).take (Try.prog.cellsOf 3)) = some y2 := (hf 2 _ rfl).trans hy2
  have g3 : DataW.trod enc Try.prog W 0 (fun _ => true) true f 3 ((cs.drop 3).take (Try.prog.cellsOf 3)) = some y3 := (hf 3 _ rfl).trans hy3
  have g4 : DataW.trod enc Try.prog W 0 (fun _ => true) true f 39 ((cs.drop 4).take (Try.prog.cellsOf 39)) = some y4 := (hf 4 _ rfl).trans hy4
  have g5 : DataW.trod enc Try.prog W 0 (fun _ => true) true f 40 ((cs.drop 9).take (Try.prog.cellsOf 40)) = some y5 := (hf 5 _ rfl).trans hy5
  rw [Try.cellsOf3] at g0 g1 g2 g3
  rw [Try.cellsOf39] at g4
  rw [Try.cellsOf40] at g5
  rw [Try.cellsOf42] at hl
  obtain ⟨kd, e0, r0, w0⟩ := DataW.trod_int Try.underlying3 g0
  obtain ⟨on, e1, r1, w1⟩ := DataW.trod_int Try.underlying3 g1
  obtain ⟨to, e2, r2, w2⟩ := DataW.trod_int Try.underlying3 g2
  obtain ⟨cl, e3, r3, w3⟩ := DataW.trod_int Try.underlying3 g3
  obtain ⟨r, e4, ht, hl2⟩ := row_bulk g4
  obtain ⟨dv, data, e5, hd, hl3⟩ := one_bytes (d := y5.1) (p := y5.2) g5
  refine ⟨⟨kd, on, to, cl, r.n, r.a, r.c, r.k, r.s, r.l, dv, data⟩, ?_, ⟨i64_wf w1, i64_wf w2, i64_wf w3, ht, hd, Nat.le_trans hl2 (agg_mem (List.mem_of_getElem? hy4)), Nat.le_trans hl3 (agg_mem (List.mem_of_getElem? hy5))⟩⟩
  have := list10 (by rfl) hl e0 e1 e2 e3 e4 e5
  rw [this]
  rfl

set_option maxRecDepth 100000 in
/-- Steps that came in. -/
theorem open_steps {v : Value} {d : DataW H} {p : List MemPlace} (h : DataW.Trod enc Try.prog W 0 (fun _ => true) true 22 v d p) (hv : ∃ a l c, v = .slice a l c) (hb : Rows.uptoBulk d ≤ 1048576) :
    ∃ xs, StepsAt W v xs ∧ xs.length ≤ 1048576 := by
  obtain ⟨fuel, hf⟩ := h
  obtain ⟨a0, l0, c0, rfl⟩ := hv
  rcases open_slice Try.underlying22 hf with ⟨hcs, hx⟩ | ⟨a, len, cap, m, n, D, Pl, hcs, _, hl, hm, hmm, hx, hel⟩
  · simp [Value.cells] at hcs
    obtain ⟨rfl, rfl, rfl⟩ := hcs
    exact ⟨[], ⟨none, 0, rfl, fun i x hx => by simp at hx⟩, by simp⟩
  · simp [Value.cells] at hcs
    obtain ⟨rfl, rfl, rfl⟩ := hcs
    have hlm : l0 ≤ m := by rw [hmm]; split <;> omega
    simp only [Prod.mk.injEq] at hx
    obtain ⟨rfl, _⟩ := hx
    have hcnt := bulk_count ((List.range l0).map D)
    have hle : ∀ i, i < l0 → Rows.uptoBulk (D i) ≤ 1048576 := fun i hi => by
      have h2 := bulk_mem (d := D i) (ds := (List.range l0).map D) (List.mem_map_of_mem (List.mem_range.2 hi))
      simp only [Rows.uptoBulk] at hb
      omega
    have each : ∀ i, i < l0 → ∃ x : St0, x.good W 1048576 ∧ ∀ j u, x.cells[j]? = some u → W.cell? (a.add (i * 10 + j)) = some u := by
      intro i hi
      obtain ⟨cs', h1, h2⟩ := hel i (by omega)
      rw [Try.cellsOf42] at h1
      obtain ⟨_, hlen, hcell⟩ := World.cells?_some h1
      obtain ⟨e, rfl, hr⟩ := step_cells h2
      have hli := hle i hi
      refine ⟨e, ⟨hr.on, hr.to, hr.cl, hr.txt, hr.rd, Nat.le_trans hr.fewT hli, Nat.le_trans hr.fewB hli⟩, fun j u hu => ?_⟩
      have hj : j < 10 := by
        have := (List.getElem?_eq_some_iff.1 hu).1
        simpa [St0.cells] using this
      have q := hcell j (by omega)
      rw [add_add] at q
      rw [q, ← hu]
    haveI : Inhabited St0 := ⟨⟨0, 0, 0, 0, 0, 0, 0, 0, .slice none 0 0, [], .slice none 0 0, []⟩⟩
    obtain ⟨f, hf'⟩ := choose_lt each
    refine ⟨(List.range l0).map f, ⟨some a, c0, by simp, fun i x hx => ?_⟩, ?_⟩
    · have hi : i < l0 := by
        have := (List.getElem?_eq_some_iff.1 hx).1
        simpa using this
      obtain rfl : f i = x := by
        rw [List.getElem?_map, List.getElem?_range hi] at hx
        simpa using hx
      obtain ⟨hg, hcell⟩ := hf' i hi
      refine ⟨hg, ?_⟩
      have h00 := (hf' 0 (by omega)).2 0 _ rfl
      obtain ⟨hsp, hb⟩ := spot_of (by simpa using h00)
      obtain ⟨b, off, sp⟩ := a
      simp only at hsp
      subst hsp
      refine ⟨b, off, rfl, hb, fun j u hu => ?_⟩
      have := hcell j u hu
      rw [Addr.add_lit] at this
      exact this
    · simp only [Rows.uptoBulk] at hb
      simp at hcnt ⊢
      omega
end
end Go.Proofs.Ytagdpfghooogfaa

namespace Go.Proofs.Ytagdpfghooogfaa
open Go.RowKit
set_option linter.unusedVariables false

theorem Txts.nil (w : World) : Txts w (.slice none 0 0) [] := ⟨none, 0, rfl, by simp, .inl rfl⟩

theorem rowB_ex : rowB 2 5 0 1 [] = [2, 5, 0, 1, 0] := by decide +kernel
theorem may_ex1 : may 2 5 0 1 [] = true := by simp [may, chkX]
theorem may_ex2 : may 2 6 0 0 [] = true := by simp [may, chkX]

set_option maxHeartbeats 1600000 in
set_option maxRecDepth 1000000 in
theorem shown_all {cs : List Comp} {w : World} (h : All cs w) : Calls Try.prog 7 #[] w fun e w' => e = .returned (.bool true) ∧ All cs w' := by
  have HA := hid h
  clear h
  go_enter Try.func7, Try.ntmps7
  go_wp2_with fail
  refine (new_any HA.out).mono ?_
  rintro e w1 ⟨g, rfl, A1⟩
  have A := hid A1
  clear A1 HA
  go_wp2_with fail
  refine (set_who (n := 1) (a := 1) (c := 0) (k := 0) (cl := 8) A.out (by omega) ⟨_, _, _, rfl⟩).mono ?_
  rintro e w2 ⟨rfl, A2⟩
  have A := hid A2
  clear A2
  go_wp2_with fail
  refine (set_off (n := 2) (a := 5) (c := 0) (k := 1) (i := 3) (p := .zero) (l := []) A.out (by omega) rfl (Txts.nil _) (by simp) (by simp) may_ex1 rfl).mono ?_
  rintro e w3 ⟨rfl, s', A3⟩
  generalize hps : (List.replicate 8 Pl.zero).set 3 ⟨true, 2, 5, 0, 1, s', []⟩ = ps at A3
  have HP : Hid (ps[3]? = some ⟨true, 2, 5, 0, 1, s', []⟩) := by rw [← hps]; exact rfl
  clear hps
  have A := hid A3
  clear A3
  go_wp2_with fail
  refine (set_old (n := 2) (a := 6) (c := 0) (k := 0) (i := 3) (l := []) A.out (by omega) HP.out (Txts.nil _) (by simp) may_ex2 rfl (by simp)).mono ?_
  rintro e w4 ⟨rfl, A4⟩
  have A := hid A4
  clear A4
  go_wp2_with fail
  refine (last_on (i := 3) A.out HP.out (by omega) rfl (by simp)).mono ?_
  rintro e w5 ⟨ao, c', rfl, A5⟩
  have A := hid (A5.tail.addBlk [.int .i64 2, .int .i64 5, .int .i64 0, .int .i64 1, .slice ao 0 c'] 39)
  clear A5
  simp only [List.length_nil]
  go_wp2_with fail
  refine (bytes_on (i := 3) (A.out.perm List.perm_middle.symm) HP.out (by omega) rfl may_ex1).mono ?_
  rw [rowB_ex]
  rintro e w6 ⟨so, sc, rfl, A6⟩
  have er : w6.heap[w5.heap.size]? = some (.cells #[.int .i64 2, .int .i64 5, .int .i64 0, .int .i64 1, .slice ao 0 c'] 39 (0, 0)) := A6.blk (vs := [.int .i64 2, .int .i64 5, .int .i64 0, .int .i64 1, .slice ao 0 c']) (by simp)
  have r0 : w6.cell? ⟨w5.heap.size, 0, none⟩ = some (.int .i64 2) := by rw [cell_at er]; rfl
  have r1 : w6.cell? ⟨w5.heap.size, 1, none⟩ = some (.int .i64 5) := by rw [cell_at er]; rfl
  have r2 : w6.cell? ⟨w5.heap.size, 2, none⟩ = some (.int .i64 0) := by rw [cell_at er]; rfl
  have r3 : w6.cell? ⟨w5.heap.size, 3, none⟩ = some (.int .i64 1) := by rw [cell_at er]; rfl
  have r4 : w6.cell? ⟨w5.heap.size, 4, none⟩ = some (.slice ao 0 c') := by rw [cell_at er]; rfl
  have own : w6.ownsRow 0 5 1 (.slice so 5 sc) (cellsB [2, 5, 0, 1, 0]).length (cellsB [2, 5, 0, 1, 0]) := A6.1.2.1
  obtain ⟨gb, rfl, b0, _⟩ := owns_at own (k := 0) (u := .int .u8 2) rfl
  obtain ⟨gb', e1, b1, _⟩ := owns_at own (k := 1) (u := .int .u8 5) rfl
  simp only [Option.some.injEq, Addr.mk.injEq, and_true] at e1
  obtain rfl := e1
  have HF := hid (A6.tail.sublist (List.Sublist.trans (.cons _ (.refl _)) (List.sublist_append_right (rollL g ps) (blkC w5.heap.size [.int .i64 2, .int .i64 5, .int .i64 0, .int .i64 1, .slice ao 0 c'] 39 :: cs))))
  clear A A6 own er
  simp only [List.length_cons, List.length_nil]
  go_wp2
  go_ret
  exact ⟨rfl, HF.out⟩

theorem names_walk {w : World} : Calls Try.prog 6 #[] w fun e w' => e = .returned (.bool true) ∧ Below w.heap.size w w' := by
  go_enter Try.func6, Try.ntmps6
  go_wp2_with fail
  refine (shown_all (All.came w)).mono ?_
  rintro e w1 ⟨rfl, A⟩
  have B := hid (A.into (w0 := w) (by simp))
  clear A
  go_wp2
  go_ret
  exact ⟨rfl, B.out⟩

end Go.Proofs.Ytagdpfghooogfaa
