import Derived.Test.YtfeppannfcbakaaGreatDoorJ11
import Derived.Test.YtfeppannfcbakaaGreatDoorJ10
import Derived.Great.BuildSlice
import Derived.Test.YtfeppannfcbakaaGreatDoorJ8
namespace Go.Proofs.YtfeppannfcbakaaGreatDoor
open Go.RowKit
set_option linter.unusedVariables false
set_option maxRecDepth 1000000
set_option maxHeartbeats 6400000
theorem Tryz.inf36 : (Tryz.prog.info? 36).map (fun i => (i.zero, i.size, i.bytes)) = some (some (.agg (Ev.zero 0).cells.toArray), 33, 328) := by kernel_rfl
theorem Tryz.inf42 : (Tryz.prog.info? 42).map (fun i => (i.zero, i.size, i.bytes)) = some (some (.slice none 0 0), 1, 24) := by kernel_rfl
theorem und42 : Tryz.prog.underlying 42 = some (.slice 36) := by kernel_rfl
theorem und38 : Tryz.prog.underlying 38 = some (.slice 42) := by kernel_rfl
theorem fill_of {F : Nat → Option (Nat × Nat)} {Z : Array Value} {L L' : List (Nat × Value)} {C : Array Value} (h : Instr.fill F Z L = some C) (e : L' = L) : Instr.fill F Z L' = some C := e ▸ h
structure Bs (ie : TypeInfo) (z : Value) (C : Array Value) : Prop where
 i : Tryz.prog.info? 36 = some ie
 o : ie.zero = some z
 s : ¬ 1 * ie.size > 2 ^ 24
 p : ¬ 1 * ie.size = 0
 f : Instr.fill (fun i => some (i * ie.size, ie.size)) ((Array.range (1 * ie.size)).map (z.cells[· % z.cells.size]!)) [(0, .agg C)] = some C
theorem bs36 (m : Ev) : ∃ ie z, Bs ie z m.cells.toArray := by
 obtain ⟨i1, hi1, hz0, hz1, hz2⟩ := info_parts Tryz.inf36
 refine ⟨i1, _, hi1, hz0, by rw [hz1]; decide, by rw [hz1]; decide, ?_⟩
 rw [hz1]
 kernel_rfl
theorem ev_one (e : Ev) : ∀ u ∈ e.cells, u.oneCell' = true := by
 intro u hu
 have : e.cells.all (·.oneCell') = true := by kernel_rfl
 exact List.all_eq_true.1 this u hu
theorem own5 (v : Value) (l : List UInt8) : ownC 5 v (cellsB l) = rowC 5 1 v l.length (cellsB l) := by unfold ownC rowC; rw [cellsB_length]
set_option linter.unusedVariables false
set_option maxRecDepth 1000000
set_option maxHeartbeats 3200000
theorem digit_any (b : UInt8) (w : World) : Calls Tryz.prog 136 #[.int .u8 (b.toNat : Int)] w fun e w' => e = .returned (.int .i64 (match hexN b.toNat with | none => -1 | some d => (d : Int))) ∧ w' = w := by
 have hb : b.toNat < 256 := b.toNat_lt
 unfold hexN
 generalize b.toNat = n at *
 by_cases h1 : 48 ≤ n ∧ n ≤ 57
 · rw [if_pos h1]
   have a1 : (48 : Int) ≤ (n : Int) := by omega
   have a2 : (n : Int) ≤ 57 := by omega
   have a3 : ((n : Int) - 48) % 256 = (n : Int) - 48 := by omega
   have a4 : (((n - 48 : Nat)) : Int) = (n : Int) - 48 := by omega
   simp only [a4]
   go_enter Tryz.func136, Tryz.ntmps136
   go_wp2
   go_ret
   exact ⟨rfl, rfl⟩
 · rw [if_neg h1]
   by_cases h2 : 97 ≤ n ∧ n ≤ 102
   · rw [if_pos h2]
     have a1 : (48 : Int) ≤ (n : Int) := by omega
     have a2 : ¬ (n : Int) ≤ 57 := by omega
     have a5 : (97 : Int) ≤ (n : Int) := by omega
     have a6 : (n : Int) ≤ 102 := by omega
     have a3 : ((n : Int) - 97) % 256 = (n : Int) - 97 := by omega
     have a7 : (n : Int) - 97 + 10 = (((n - 87 : Nat)) : Int) := by omega
     simp only [← a7]
     clear a7
     go_enter Tryz.func136, Tryz.ntmps136
     go_wp2
     go_ret
     exact ⟨rfl, rfl⟩
   · rw [if_neg h2]
     by_cases h3 : 48 ≤ n
     · have a1 : (48 : Int) ≤ (n : Int) := by omega
       have a2 : ¬ (n : Int) ≤ 57 := by omega
       by_cases h4 : 97 ≤ n
       · have a5 : (97 : Int) ≤ (n : Int) := by omega
         have a6 : ¬ (n : Int) ≤ 102 := by omega
         go_enter Tryz.func136, Tryz.ntmps136
         go_wp2
         go_ret
         exact ⟨rfl, rfl⟩
       · have a5 : ¬ (97 : Int) ≤ (n : Int) := by omega
         go_enter Tryz.func136, Tryz.ntmps136
         go_wp2
         go_ret
         exact ⟨rfl, rfl⟩
     · have a1 : ¬ (48 : Int) ≤ (n : Int) := by omega
       have a5 : ¬ (97 : Int) ≤ (n : Int) := by omega
       go_enter Tryz.func136, Tryz.ntmps136
       go_wp2
       go_ret
       exact ⟨rfl, rfl⟩
def hxP : List UInt8 → Option (List UInt8)
 | a :: b :: r => match hexN a.toNat, hexN b.toNat with
   | some x, some y => (hxP r).map (UInt8.ofNat (16 * x + y) :: ·)
   | _, _ => none
 | _ => some []
theorem hxP_at {l : List UInt8} {m : Nat} (h : m + 1 < l.length) : hxP (l.drop m) = match hexN (l.getD m 0).toNat, hexN (l.getD (m + 1) 0).toNat with
   | some x, some y => (hxP (l.drop (m + 2))).map (UInt8.ofNat (16 * x + y) :: ·)
   | _, _ => none := by
 rw [List.drop_eq_getElem_cons (show m < l.length by omega), List.drop_eq_getElem_cons h, hxP]
 have e1 : l.getD m 0 = l[m] := by rw [List.getD_eq_getElem?_getD, List.getElem?_eq_getElem (by omega)]; rfl
 have e2 : l.getD (m + 1) 0 = l[m + 1] := by rw [List.getD_eq_getElem?_getD, List.getElem?_eq_getElem h]; rfl
 rw [e1, e2]
theorem hxP_end {l : List UInt8} {m : Nat} (h : l.length ≤ m + 1) : hxP (l.drop m) = some [] := by
 match hd : l.drop m with
 | [] => rfl
 | [_] => rfl
 | a :: b :: r =>
   have := congrArg List.length hd
   simp at this
   omega
def dDX (l : Ws) (k : Nat) (x : Int) : Int :=
 if (dW l k x).length % 2 = 1 ∨ 4608 < (dW l k x).length then flE (dX l k x) 190 else dX l k x
def dDE (l : Ws) (k : Nat) (x : Int) : Int := if (hxP (dW l k x)).isSome then dDX l k x else flE (dDX l k x) 190
theorem rdata_doc {R : Nat} {s : Value} {l : Ws} {k : Nat} {x : Int} {cs : List Comp} {w : World} (hk : k ≤ l.length) (hl : l.length ≤ 140737488355328) (hs : ∀ y ∈ l, y.length ≤ 140737488355328) (hS : ∀ W, All cs W → Rt W s l) (A : All (rdB R s k x :: cs) w) :
   Calls Tryz.prog 112 #[.pointer (some ⟨R, 0, none⟩)] w fun e w' => ∃ v, e = .returned v ∧ All (ownC 5 v (cellsB ((hxP (dW l k x)).getD [])) :: rdB R s (dK l k x) (dDE l k x) :: cs) w' := by
 have CW := hid (rword_any hk hl hS A)
 have hL := dW_len (k := k) (x := x) hs
 unfold dDE dDX
 generalize hq : dW l k x = q at *
 generalize dK l k x = K' at *
 generalize dX l k x = X1 at *
 clear hq
 have CF := hid (fun X W (h : All (rdB R s K' X :: cs) W) => rfail_any (e := 190) h)
 have sz : (⟨q.toArray⟩ : ByteArray).size = q.length := by simp [ByteArray.size]
 have IX : Hid (∀ k, k < q.length → ∀ W, (Instr.index 9 (.string ⟨q.toArray⟩) (.int .i64 (k : Int))).run Tryz.prog W = .ok (.int .u8 ((q.getD k 0).toNat : Int)) W) := hid fun k hk W => idx_at hk W
 have HAT : Hid (∀ m, m + 1 < q.length → hxP (q.drop m) = match hexN (q.getD m 0).toNat, hexN (q.getD (m + 1) 0).toNat with
   | some x, some y => (hxP (q.drop (m + 2))).map (UInt8.ofNat (16 * x + y) :: ·)
   | _, _ => none) := hid (fun k hk => hxP_at hk)
 have FE : Hid (∀ m, q.length ≤ m + 1 → hxP (q.drop m) = some []) := hid (fun m h => hxP_end h)
 have H0 : Hid (hxP q = (hxP (q.drop 0)).map ([] ++ ·)) := hid (by simp)
 obtain ⟨X2, hX2⟩ : ∃ X2, Hid (X2 = if q.length % 2 = 1 ∨ 4608 < q.length then flE X1 190 else X1) := ⟨_, hid rfl⟩
 rw [← hX2.out]
 obtain ⟨X3, hX3⟩ : ∃ X3, Hid (X3 = if (hxP q).isSome then X2 else flE X2 190) := ⟨_, hid rfl⟩
 rw [← hX3.out]
 generalize hX : ByteArray.mk q.toArray = X at *
 generalize hn : q.length = n at *
 generalize hRR : hxP q = RR at *
 clear hX hn hRR A hS hs hk hl
 go_enter Tryz.func112, Tryz.ntmps112
 go_upto_region 2 with (go_at_call 107; refine CW.out.mono ?_; rintro r w1 ⟨rfl, B1⟩; have K1 := hid B1; clear B1)
 by_cases ho : n % 2 = 1
 · have e1 : (n : Int) % 2 = 1 := by omega
   have e2 : X2 = flE X1 190 := by rw [hX2.out, if_pos (Or.inl ho)]
   clear hX2 ho
   subst e2
   go_upto_region 4 with (go_at_call 75; refine (CF.out _ _ K1.out).mono ?_; rintro r w2 ⟨rfl, B2⟩; have KR := hid B2; clear B2)
   have HM : Hid (All (ownC 5 (.slice (some ⟨w2.heap.size, 0, none⟩) 0 0) (cellsB []) :: rdB R s K' (flE X1 190) :: cs) (w2.alloc (.cells #[] 5))) := hid (by rw [own5]; exact KR.out.addRowE 5 1)
   go_wp2
   go_loopw [4, 5] (fun av iv wr => ∃ (m : Nat) (acc : List UInt8), m ≤ n + 1 ∧ iv = .int .i64 (m : Int) ∧ Hid (acc.length ≤ m) ∧ Hid (RR = (hxP (q.drop m)).map (acc ++ ·)) ∧ Hid (All (ownC 5 av (cellsB acc) :: rdB R s K' (flE X1 190) :: cs) wr)) (fun _ iv _ => n + 2 - (intOf iv).toNat)
   case atStart => exact ⟨0, [], by omega, rfl, hid (Nat.le_refl _), H0, HM⟩
   case round =>
     obtain ⟨m, acc, hk, rfl, hacc, hR, HK⟩ := hrel
     clear H0 HM
     by_cases hlt : m + 1 < n
     · have hlt' : (m : Int) + 1 < (n : Int) := by omega
       have i0 := IX.out m (by omega)
       have i1 := IX.out (m + 1) hlt
       rw [show ((m + 1 : Nat) : Int) = (m : Int) + 1 by omega] at i1
       have wa1 : IntKind.i64.wrap ((m : Int) + 1) = (m : Int) + 1 := by rw [IntKind.wrap_i64]; omega
       have wa2 : IntKind.i64.wrap ((m : Int) + 2) = (m : Int) + 2 := by rw [IntKind.wrap_i64]; omega
       have AT := hid (HAT.out m hlt)
       have C0 := hid (fun W => digit_any (q.getD m 0) W)
       have C1 := hid (fun W => digit_any (q.getD (m + 1) 0) W)
       clear IX HAT FE
       generalize (q.getD m 0) = B0 at *
       generalize (q.getD (m + 1) 0) = B1 at *
       cases h0 : hexN B0.toNat with
       | none =>
         rw [h0] at C0 AT
         have RN : Hid (RR = none) := hid (by rw [hR.out, AT.out]; rfl)
         have KC := hid HK.out.tail
         clear HK h0 AT
         generalize (B0.toNat : Int) = b0 at *
         have C1' : Hid (∀ W : World, Calls Tryz.prog 136 #[.int .u8 (B1.toNat : Int)] W fun e w' => (∃ q : Int, e = .returned (.int .i64 q)) ∧ w' = W) := hid (fun W => (C1.out W).mono fun e w' h => ⟨⟨_, h.1⟩, h.2⟩)
         clear C1
         generalize (B1.toNat : Int) = b1 at *
         go_upto_region 9 with (go_at_call 136; refine (C0.out _).mono ?_; rintro e w8 ⟨rfl, rfl⟩; simp only)
         go_upto_region 10 with (go_at_call 136; refine (C1'.out _).mono ?_; rintro e w8 ⟨⟨q1, rfl⟩, rfl⟩)
         go_wp2_with (first | (go_at_call 75; refine (CF.out _ _ KC.out).mono ?_; rintro r w9 ⟨rfl, B9⟩; have K9 := hid B9; clear B9))
         go_ret
         exact ⟨_, rfl, by rw [hX3.out, RN.out]; exact All.addNil K9.out⟩
       | some x =>
         cases h1 : hexN B1.toNat with
         | none =>
           rw [h0] at C0 AT
           rw [h1] at C1 AT
           have RN : Hid (RR = none) := hid (by rw [hR.out, AT.out]; rfl)
           have KC := hid HK.out.tail
           have hx0 : ¬ (x : Int) < 0 := by omega
           clear HK h0 h1 AT
           generalize (B0.toNat : Int) = b0 at *
           generalize (B1.toNat : Int) = b1 at *
           go_upto_region 9 with (go_at_call 136; refine (C0.out _).mono ?_; rintro e w8 ⟨rfl, rfl⟩; simp only)
           go_upto_region 10 with (go_at_call 136; refine (C1.out _).mono ?_; rintro e w8 ⟨rfl, rfl⟩; simp only)
           go_wp2_with (first | (go_at_call 75; refine (CF.out _ _ KC.out).mono ?_; rintro r w9 ⟨rfl, B9⟩; have K9 := hid B9; clear B9))
           go_ret
           exact ⟨_, rfl, by rw [hX3.out, RN.out]; exact All.addNil K9.out⟩
         | some y =>
           rw [h0] at C0 AT
           rw [h1] at C1 AT
           have hx := hexN_lt h0
           have hy := hexN_lt h1
           clear h0 h1
           have ob : ((UInt8.ofNat (16 * x + y)).toNat : Int) = (x : Int) * 16 + (y : Int) := by
             have : ∀ a b : Fin 16, ((UInt8.ofNat (16 * a.val + b.val)).toNat : Int) = (a.val : Int) * 16 + (b.val : Int) := by decide +kernel
             exact this ⟨x, hx⟩ ⟨y, hy⟩
           obtain ⟨ao6, c6, w6, hr6, A6⟩ := app_byte HK.out (UInt8.ofNat (16 * x + y)) (by have := hacc.out; omega)
           rw [ob] at hr6
           have R6 := hid hr6
           have B6 := hid A6
           have NR : Hid (RR = (hxP (q.drop (m + 2))).map ((acc ++ [UInt8.ofNat (16 * x + y)]) ++ ·)) := hid (by
             rw [hR.out, AT.out, Option.map_map]
             congr 1
             funext z
             simp)
           have hx0 : ¬ (x : Int) < 0 := by omega
           have hy0 : ¬ (y : Int) < 0 := by omega
           clear hr6 A6 HK AT hR ob
           have hx9 : (x : Int) ≤ 15 := by omega
           have hy9 : (y : Int) ≤ 15 := by omega
           generalize (B0.toNat : Int) = b0 at *
           generalize (B1.toNat : Int) = b1 at *
           go_upto_region 9 with (go_at_call 136; refine (C0.out _).mono ?_; rintro e w8 ⟨rfl, rfl⟩; simp only)
           go_upto_region 10 with (go_at_call 136; refine (C1.out _).mono ?_; rintro e w8 ⟨rfl, rfl⟩; simp only)
           go_wp2_with (first | (at_builtin; refine wpList_append_run rfl _ _ 32 rfl _ _ _ _ rfl rfl R6.out ?_))
           go_roundw
           case rel => exact ⟨m + 2, _, by omega, by go_num, hid (by have := hacc.out; simp; omega), NR, B6⟩
           case measure => simp [intOf]; omega
     · have hlt' : ¬ (m : Int) + 1 < (n : Int) := by omega
       have wa1 : IntKind.i64.wrap ((m : Int) + 1) = (m : Int) + 1 := by rw [IntKind.wrap_i64]; omega
       have wa2 : IntKind.i64.wrap ((m : Int) + 2) = (m : Int) + 2 := by rw [IntKind.wrap_i64]; omega
       have RR2 : Hid (RR = some acc) := hid (by rw [hR.out, FE.out m (by omega)]; simp)
       have KF : Hid (All (ownC 5 u4 (cellsB (RR.getD [])) :: rdB R s K' X3 :: cs) wr) := hid (by rw [hX3.out, RR2.out]; exact HK.out)
       clear HK
       go_wp2
       go_ret
       exact ⟨_, rfl, KF.out⟩
 · have e1 : (n : Int) % 2 = 0 := by omega
   by_cases hg : 4608 < n
   · have e3 : (4608 : Int) < (n : Int) := by omega
     have e2 : X2 = flE X1 190 := by rw [hX2.out, if_pos (Or.inr hg)]
     clear hX2 ho hg
     subst e2
     go_upto_region 4 with (go_at_call 75; refine (CF.out _ _ K1.out).mono ?_; rintro r w2 ⟨rfl, B2⟩; have KR := hid B2; clear B2)
     have HM : Hid (All (ownC 5 (.slice (some ⟨w2.heap.size, 0, none⟩) 0 0) (cellsB []) :: rdB R s K' (flE X1 190) :: cs) (w2.alloc (.cells #[] 5))) := hid (by rw [own5]; exact KR.out.addRowE 5 1)
     go_wp2
     go_loopw [4, 5] (fun av iv wr => ∃ (m : Nat) (acc : List UInt8), m ≤ n + 1 ∧ iv = .int .i64 (m : Int) ∧ Hid (acc.length ≤ m) ∧ Hid (RR = (hxP (q.drop m)).map (acc ++ ·)) ∧ Hid (All (ownC 5 av (cellsB acc) :: rdB R s K' (flE X1 190) :: cs) wr)) (fun _ iv _ => n + 2 - (intOf iv).toNat)
     case atStart => exact ⟨0, [], by omega, rfl, hid (Nat.le_refl _), H0, HM⟩
     case round =>
       obtain ⟨m, acc, hk, rfl, hacc, hR, HK⟩ := hrel
       clear H0 HM
       by_cases hlt : m + 1 < n
       · have hlt' : (m : Int) + 1 < (n : Int) := by omega
         have i0 := IX.out m (by omega)
         have i1 := IX.out (m + 1) hlt
         rw [show ((m + 1 : Nat) : Int) = (m : Int) + 1 by omega] at i1
         have wa1 : IntKind.i64.wrap ((m : Int) + 1) = (m : Int) + 1 := by rw [IntKind.wrap_i64]; omega
         have wa2 : IntKind.i64.wrap ((m : Int) + 2) = (m : Int) + 2 := by rw [IntKind.wrap_i64]; omega
         have AT := hid (HAT.out m hlt)
         have C0 := hid (fun W => digit_any (q.getD m 0) W)
         have C1 := hid (fun W => digit_any (q.getD (m + 1) 0) W)
         clear IX HAT FE
         generalize (q.getD m 0) = B0 at *
         generalize (q.getD (m + 1) 0) = B1 at *
         cases h0 : hexN B0.toNat with
         | none =>
           rw [h0] at C0 AT
           have RN : Hid (RR = none) := hid (by rw [hR.out, AT.out]; rfl)
           have KC := hid HK.out.tail
           clear HK h0 AT
           generalize (B0.toNat : Int) = b0 at *
           have C1' : Hid (∀ W : World, Calls Tryz.prog 136 #[.int .u8 (B1.toNat : Int)] W fun e w' => (∃ q : Int, e = .returned (.int .i64 q)) ∧ w' = W) := hid (fun W => (C1.out W).mono fun e w' h => ⟨⟨_, h.1⟩, h.2⟩)
           clear C1
           generalize (B1.toNat : Int) = b1 at *
           go_upto_region 9 with (go_at_call 136; refine (C0.out _).mono ?_; rintro e w8 ⟨rfl, rfl⟩; simp only)
           go_upto_region 10 with (go_at_call 136; refine (C1'.out _).mono ?_; rintro e w8 ⟨⟨q1, rfl⟩, rfl⟩)
           go_wp2_with (first | (go_at_call 75; refine (CF.out _ _ KC.out).mono ?_; rintro r w9 ⟨rfl, B9⟩; have K9 := hid B9; clear B9))
           go_ret
           exact ⟨_, rfl, by rw [hX3.out, RN.out]; exact All.addNil K9.out⟩
         | some x =>
           cases h1 : hexN B1.toNat with
           | none =>
             rw [h0] at C0 AT
             rw [h1] at C1 AT
             have RN : Hid (RR = none) := hid (by rw [hR.out, AT.out]; rfl)
             have KC := hid HK.out.tail
             have hx0 : ¬ (x : Int) < 0 := by omega
             clear HK h0 h1 AT
             generalize (B0.toNat : Int) = b0 at *
             generalize (B1.toNat : Int) = b1 at *
             go_upto_region 9 with (go_at_call 136; refine (C0.out _).mono ?_; rintro e w8 ⟨rfl, rfl⟩; simp only)
             go_upto_region 10 with (go_at_call 136; refine (C1.out _).mono ?_; rintro e w8 ⟨rfl, rfl⟩; simp only)
             go_wp2_with (first | (go_at_call 75; refine (CF.out _ _ KC.out).mono ?_; rintro r w9 ⟨rfl, B9⟩; have K9 := hid B9; clear B9))
             go_ret
             exact ⟨_, rfl, by rw [hX3.out, RN.out]; exact All.addNil K9.out⟩
           | some y =>
             rw [h0] at C0 AT
             rw [h1] at C1 AT
             have hx := hexN_lt h0
             have hy := hexN_lt h1
             clear h0 h1
             have ob : ((UInt8.ofNat (16 * x + y)).toNat : Int) = (x : Int) * 16 + (y : Int) := by
               have : ∀ a b : Fin 16, ((UInt8.ofNat (16 * a.val + b.val)).toNat : Int) = (a.val : Int) * 16 + (b.val : Int) := by decide +kernel
               exact this ⟨x, hx⟩ ⟨y, hy⟩
             obtain ⟨ao6, c6, w6, hr6, A6⟩ := app_byte HK.out (UInt8.ofNat (16 * x + y)) (by have := hacc.out; omega)
             rw [ob] at hr6
             have R6 := hid hr6
             have B6 := hid A6
             have NR : Hid (RR = (hxP (q.drop (m + 2))).map ((acc ++ [UInt8.ofNat (16 * x + y)]) ++ ·)) := hid (by
               rw [hR.out, AT.out, Option.map_map]
               congr 1
               funext z
               simp)
             have hx0 : ¬ (x : Int) < 0 := by omega
             have hy0 : ¬ (y : Int) < 0 := by omega
             clear hr6 A6 HK AT hR ob
             have hx9 : (x : Int) ≤ 15 := by omega
             have hy9 : (y : Int) ≤ 15 := by omega
             generalize (B0.toNat : Int) = b0 at *
             generalize (B1.toNat : Int) = b1 at *
             go_upto_region 9 with (go_at_call 136; refine (C0.out _).mono ?_; rintro e w8 ⟨rfl, rfl⟩; simp only)
             go_upto_region 10 with (go_at_call 136; refine (C1.out _).mono ?_; rintro e w8 ⟨rfl, rfl⟩; simp only)
             go_wp2_with (first | (at_builtin; refine wpList_append_run rfl _ _ 32 rfl _ _ _ _ rfl rfl R6.out ?_))
             go_roundw
             case rel => exact ⟨m + 2, _, by omega, by go_num, hid (by have := hacc.out; simp; omega), NR, B6⟩
             case measure => simp [intOf]; omega
       · have hlt' : ¬ (m : Int) + 1 < (n : Int) := by omega
         have wa1 : IntKind.i64.wrap ((m : Int) + 1) = (m : Int) + 1 := by rw [IntKind.wrap_i64]; omega
         have wa2 : IntKind.i64.wrap ((m : Int) + 2) = (m : Int) + 2 := by rw [IntKind.wrap_i64]; omega
         have RR2 : Hid (RR = some acc) := hid (by rw [hR.out, FE.out m (by omega)]; simp)
         have KF : Hid (All (ownC 5 u4 (cellsB (RR.getD [])) :: rdB R s K' X3 :: cs) wr) := hid (by rw [hX3.out, RR2.out]; exact HK.out)
         clear HK
         go_wp2
         go_ret
         exact ⟨_, rfl, KF.out⟩
   · have e3 : ¬ (4608 : Int) < (n : Int) := by omega
     have e2 : X2 = X1 := by rw [hX2.out, if_neg (by omega)]
     clear hX2 ho hg
     subst e2
     have KR := K1
     go_upto_region 4 with fail
     have HM : Hid (All (ownC 5 (.slice (some ⟨w1.heap.size, 0, none⟩) 0 0) (cellsB []) :: rdB R s K' X2 :: cs) (w1.alloc (.cells #[] 5))) := hid (by rw [own5]; exact KR.out.addRowE 5 1)
     go_wp2
     go_loopw [4, 5] (fun av iv wr => ∃ (m : Nat) (acc : List UInt8), m ≤ n + 1 ∧ iv = .int .i64 (m : Int) ∧ Hid (acc.length ≤ m) ∧ Hid (RR = (hxP (q.drop m)).map (acc ++ ·)) ∧ Hid (All (ownC 5 av (cellsB acc) :: rdB R s K' X2 :: cs) wr)) (fun _ iv _ => n + 2 - (intOf iv).toNat)
     case atStart => exact ⟨0, [], by omega, rfl, hid (Nat.le_refl _), H0, HM⟩
     case round =>
       obtain ⟨m, acc, hk, rfl, hacc, hR, HK⟩ := hrel
       clear H0 HM
       by_cases hlt : m + 1 < n
       · have hlt' : (m : Int) + 1 < (n : Int) := by omega
         have i0 := IX.out m (by omega)
         have i1 := IX.out (m + 1) hlt
         rw [show ((m + 1 : Nat) : Int) = (m : Int) + 1 by omega] at i1
         have wa1 : IntKind.i64.wrap ((m : Int) + 1) = (m : Int) + 1 := by rw [IntKind.wrap_i64]; omega
         have wa2 : IntKind.i64.wrap ((m : Int) + 2) = (m : Int) + 2 := by rw [IntKind.wrap_i64]; omega
         have AT := hid (HAT.out m hlt)
         have C0 := hid (fun W => digit_any (q.getD m 0) W)
         have C1 := hid (fun W => digit_any (q.getD (m + 1) 0) W)
         clear IX HAT FE
         generalize (q.getD m 0) = B0 at *
         generalize (q.getD (m + 1) 0) = B1 at *
         cases h0 : hexN B0.toNat with
         | none =>
           rw [h0] at C0 AT
           have RN : Hid (RR = none) := hid (by rw [hR.out, AT.out]; rfl)
           have KC := hid HK.out.tail
           clear HK h0 AT
           generalize (B0.toNat : Int) = b0 at *
           have C1' : Hid (∀ W : World, Calls Tryz.prog 136 #[.int .u8 (B1.toNat : Int)] W fun e w' => (∃ q : Int, e = .returned (.int .i64 q)) ∧ w' = W) := hid (fun W => (C1.out W).mono fun e w' h => ⟨⟨_, h.1⟩, h.2⟩)
           clear C1
           generalize (B1.toNat : Int) = b1 at *
           go_upto_region 9 with (go_at_call 136; refine (C0.out _).mono ?_; rintro e w8 ⟨rfl, rfl⟩; simp only)
           go_upto_region 10 with (go_at_call 136; refine (C1'.out _).mono ?_; rintro e w8 ⟨⟨q1, rfl⟩, rfl⟩)
           go_wp2_with (first | (go_at_call 75; refine (CF.out _ _ KC.out).mono ?_; rintro r w9 ⟨rfl, B9⟩; have K9 := hid B9; clear B9))
           go_ret
           exact ⟨_, rfl, by rw [hX3.out, RN.out]; exact All.addNil K9.out⟩
         | some x =>
           cases h1 : hexN B1.toNat with
           | none =>
             rw [h0] at C0 AT
             rw [h1] at C1 AT
             have RN : Hid (RR = none) := hid (by rw [hR.out, AT.out]; rfl)
             have KC := hid HK.out.tail
             have hx0 : ¬ (x : Int) < 0 := by omega
             clear HK h0 h1 AT
             generalize (B0.toNat : Int) = b0 at *
             generalize (B1.toNat : Int) = b1 at *
             go_upto_region 9 with (go_at_call 136; refine (C0.out _).mono ?_; rintro e w8 ⟨rfl, rfl⟩; simp only)
             go_upto_region 10 with (go_at_call 136; refine (C1.out _).mono ?_; rintro e w8 ⟨rfl, rfl⟩; simp only)
             go_wp2_with (first | (go_at_call 75; refine (CF.out _ _ KC.out).mono ?_; rintro r w9 ⟨rfl, B9⟩; have K9 := hid B9; clear B9))
             go_ret
             exact ⟨_, rfl, by rw [hX3.out, RN.out]; exact All.addNil K9.out⟩
           | some y =>
             rw [h0] at C0 AT
             rw [h1] at C1 AT
             have hx := hexN_lt h0
             have hy := hexN_lt h1
             clear h0 h1
             have ob : ((UInt8.ofNat (16 * x + y)).toNat : Int) = (x : Int) * 16 + (y : Int) := by
               have : ∀ a b : Fin 16, ((UInt8.ofNat (16 * a.val + b.val)).toNat : Int) = (a.val : Int) * 16 + (b.val : Int) := by decide +kernel
               exact this ⟨x, hx⟩ ⟨y, hy⟩
             obtain ⟨ao6, c6, w6, hr6, A6⟩ := app_byte HK.out (UInt8.ofNat (16 * x + y)) (by have := hacc.out; omega)
             rw [ob] at hr6
             have R6 := hid hr6
             have B6 := hid A6
             have NR : Hid (RR = (hxP (q.drop (m + 2))).map ((acc ++ [UInt8.ofNat (16 * x + y)]) ++ ·)) := hid (by
               rw [hR.out, AT.out, Option.map_map]
               congr 1
               funext z
               simp)
             have hx0 : ¬ (x : Int) < 0 := by omega
             have hy0 : ¬ (y : Int) < 0 := by omega
             clear hr6 A6 HK AT hR ob
             have hx9 : (x : Int) ≤ 15 := by omega
             have hy9 : (y : Int) ≤ 15 := by omega
             generalize (B0.toNat : Int) = b0 at *
             generalize (B1.toNat : Int) = b1 at *
             go_upto_region 9 with (go_at_call 136; refine (C0.out _).mono ?_; rintro e w8 ⟨rfl, rfl⟩; simp only)
             go_upto_region 10 with (go_at_call 136; refine (C1.out _).mono ?_; rintro e w8 ⟨rfl, rfl⟩; simp only)
             go_wp2_with (first | (at_builtin; refine wpList_append_run rfl _ _ 32 rfl _ _ _ _ rfl rfl R6.out ?_))
             go_roundw
             case rel => exact ⟨m + 2, _, by omega, by go_num, hid (by have := hacc.out; simp; omega), NR, B6⟩
             case measure => simp [intOf]; omega
       · have hlt' : ¬ (m : Int) + 1 < (n : Int) := by omega
         have wa1 : IntKind.i64.wrap ((m : Int) + 1) = (m : Int) + 1 := by rw [IntKind.wrap_i64]; omega
         have wa2 : IntKind.i64.wrap ((m : Int) + 2) = (m : Int) + 2 := by rw [IntKind.wrap_i64]; omega
         have RR2 : Hid (RR = some acc) := hid (by rw [hR.out, FE.out m (by omega)]; simp)
         have KF : Hid (All (ownC 5 u4 (cellsB (RR.getD [])) :: rdB R s K' X3 :: cs) wr) := hid (by rw [hX3.out, RR2.out]; exact HK.out)
         clear HK
         go_wp2
         go_ret
         exact ⟨_, rfl, KF.out⟩
end Go.Proofs.YtfeppannfcbakaaGreatDoor
