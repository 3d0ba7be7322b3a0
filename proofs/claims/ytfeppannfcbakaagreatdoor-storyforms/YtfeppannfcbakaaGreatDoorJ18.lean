import Derived.Test.YtfeppannfcbakaaGreatDoorJ17
import Derived.Test.YtfeppannfcbakaaGreatDoorEv12
namespace Go.Proofs.YtfeppannfcbakaaGreatDoor
open Go.RowKit
set_option linter.unusedVariables false
set_option maxRecDepth 100000

/-- An event's words; its line: the error and the text. -/
def Ev.words (e : Ev) (items : Ws) (data : List UInt8) : Ws := kdN.getD e.k.toNat [] :: (kindT e.k).flatMap (wdT e.cells items data)
def Ev.err (e : Ev) (items : Ws) : Int := if e.inForm = false then 190 else ersL (er1 e.cells items) (kindT e.k)
def Ev.line (e : Ev) (items : Ws) (data : List UInt8) : List UInt8 := if e.err items ≠ 0 then [] else joinW (e.words items data)
theorem inForm_k {e : Ev} (h : e.inForm = true) : 1 ≤ e.k ∧ e.k ≤ 11 := by
  unfold Ev.inForm at h
  split at h
  · simp at h
  · omega
set_option maxHeartbeats 6400000 in
set_option maxRecDepth 1000000 in
theorem Line_any (e : Ev) {items : Ws} {data : List UInt8} {cs : List Comp} {w : World} (hE : ∀ W, All cs W → En W)
    (hT : e.inForm = true → ∀ t ∈ kindT e.k, TpWT e.cells items data cs t) (hw : ∀ t ∈ kindT e.k, (wdT e.cells items data t).length ≤ 100)
    (hJ : e.err items = 0 → lenJ (e.words items data) ≤ 100000000000000) (A : All cs w) :
    Calls Tryz.prog 11 #[.agg e.cells.toArray] w fun r w' => r = .returned (.tuple #[.string ⟨(e.line items data).toArray⟩, .int .i64 (e.err items)]) ∧ All cs w' := by
  have A1 := hid (A.addBlk e.cells 36)
  have CF := hid (fun W ds (hW : All ds W) => isInForm_any e hW)
  have I36 : Hid ((Tryz.prog.info? 36).map (·.size) = some e.cells.toArray.size) := hid (by kernel_rfl)
  have HB := hid (A1.out.blk (g := w.heap.size) (vs := e.cells) (t := 36) (List.mem_cons_self))
  have ZC : Hid (∀ ds W, All (blkC w.heap.size e.cells 36 :: ds) W → W.cell? ⟨w.heap.size, 0, none⟩ = some (.int .i64 e.k)) := hid (fun ds W hW => cell_in (P := w.heap.size) (o := 0) hW (t := 36) (List.mem_cons_self) rfl)
  have CT : Hid (∀ W, All (blkC w.heap.size e.cells 36 :: cs) W → Calls Tryz.prog 28 #[.pointer (some ⟨w.heap.size, 0, none⟩)] W (ThPost w.heap.size (kindT e.k) (blkC w.heap.size e.cells 36 :: cs))) := hid (fun W hW => things_any hW (ZC.out _ _ hW))
  by_cases hF : e.inForm = true
  · have hk := inForm_k hF
    have CW : Hid (∀ b W, All (blkC b ((kindT e.k).map (thV w.heap.size)) 20 :: blkC w.heap.size e.cells 36 :: cs) W → Calls Tryz.prog 27 #[.slice (some ⟨b, 0, none⟩) (kindT e.k).length (kindT e.k).length] W (WRPost (wdsL (wdT e.cells items data) (er1 e.cells items) (kindT e.k)) (ersL (er1 e.cells items) (kindT e.k)) (blkC b ((kindT e.k).map (thV w.heap.size)) 20 :: blkC w.heap.size e.cells 36 :: cs))) := hid (fun b W hW => thingsWords_any (fun V hV => hE V hV.tail.tail) (List.mem_cons_of_mem _ (List.mem_cons_self)) (fun t ht => (hT hF t ht).mono (fun V hV => hV.tail.tail)) (kindT_len _) hw (List.mem_cons_self) hW)
    have HK : Hid (∀ W, All cs W → W.cell? ⟨0, e.k.toNat, none⟩ = some (.string ⟨(kdN.getD e.k.toNat []).toArray⟩)) := hid (fun W hW => (hE W hW).k.2 e.k.toNat (by omega))
    obtain ⟨kn, hkn⟩ : ∃ kn : Nat, e.k = (kn : Int) := ⟨e.k.toNat, by omega⟩
    have ekn : e.k.toNat = kn := by omega
    by_cases hX : ersL (er1 e.cells items) (kindT e.k) = 0
    · have EE : Hid (e.err items = 0 ∧ e.line items data = joinW (e.words items data)) := hid (by
        have h1 : e.err items = 0 := by unfold Ev.err; rw [if_neg (by simp [hF]), hX]
        exact ⟨h1, by unfold Ev.line; rw [if_neg (by simp [h1])]⟩)
      have WE : Hid (wdsL (wdT e.cells items data) (er1 e.cells items) (kindT e.k) = (kindT e.k).flatMap (wdT e.cells items data)) := hid (by unfold wdsL; rw [if_neg (by simp [hX])])
      rw [hX, WE.out] at CW
      have EW : Hid (e.words items data = kdN.getD kn [] :: (kindT e.k).flatMap (wdT e.cells items data)) := hid (by unfold Ev.words; rw [ekn])
      have FL := hid (Nat.le_trans (fm_len hw) (Nat.mul_le_mul_left 100 (kindT_len e.k)))
      have HJJ := hid (hJ EE.out.1)
      have hF' : e.inForm = true := hF
      rw [hF'] at CF
      rw [ekn] at HK
      rw [hkn] at ZC
      unfold ThPost at CT
      unfold WRPost at CW
      clear A hE hT hw hJ hX WE hF hF' ekn
      have hk1 : (kn : Int) < 12 := by omega
      clear hkn hk
      generalize (kindT e.k).flatMap (wdT e.cells items data) = WS at *
      generalize (kindT e.k).map (thV w.heap.size) = LV at *
      generalize (kindT e.k).length = n at *
      generalize hKD : kdN.getD kn [] = KD at *
      clear hKD
      generalize e.cells = EC at *
      go_enter Tryz.func11, Tryz.ntmps11
      go_upto_region 1 with fail
      generalize w.alloc (.cells EC.toArray 36) = w1 at *
      go_upto_region 6 with (first | (refine wpList_load_row rfl 36 _ rfl w.heap.size rfl 36 EC.toArray (0, 0) _ HB.out Tryz.underlying36 rfl I36.out ?_) | (go_at_call 26; refine (CF.out _ _ A1.out).mono ?_; rintro r w2 ⟨rfl, A2⟩; have K2 := hid A2; clear A2) | (go_at_call 28; refine (CT.out _ K2.out).mono ?_; rintro r w3 ⟨b3, rfl, A3⟩; have K3 := hid A3; clear A3) | (go_at_call 27; refine (CW.out _ _ K3.out).mono ?_; rintro r w4 ⟨v4, rfl, A4⟩; have K4 := hid A4; clear A4))
      have z0 := ZC.out _ _ K4.out.tail.tail
      have hk0 := HK.out _ K4.out.tail.tail.tail
      have KO := hid (own_new K4.out [KD] (by simp))
      obtain ⟨ao6, c6, w6, hr6, A6⟩ := appR KO.out (rt_own KO.out.tail) (by have := FL.out; simp only [List.length_cons, List.length_nil]; omega)
      have R6 : Hid ((Builtin.append_ #[27, 27] 27 #[.slice (some ⟨w4.heap.size, 0, none⟩) 1 1, v4]).run Tryz.prog (w4.alloc (.cells #[.string ⟨KD.toArray⟩] 9)) = .ok (.slice ao6 (1 + WS.length) c6) w6) := hid hr6
      have CJ := hid (Join_any (rt_own A6) (by have := FL.out; simp only [List.cons_append, List.nil_append, List.length_cons]; omega) (by have := HJJ.out; rw [EW.out] at this; exact this))
      have K6 := hid A6
      clear hr6 A6 KO HJJ
      have EL : Hid (joinW ([KD] ++ WS) = e.line items data) := hid (by rw [EE.out.2, EW.out]; rfl)
      rw [EL.out] at CJ
      generalize hLN : ByteArray.mk (e.line items data).toArray = LN at *
      have HLN := hid hLN
      clear hLN
      generalize ByteArray.mk KD.toArray = KB at *
      clear EL EW
      go_wp2_with (first | (at_builtin; refine wpList_append_run rfl _ _ 27 rfl _ _ _ _ rfl rfl R6.out ?_) | (go_at_call 29; refine CJ.out.mono ?_; rintro r w7 ⟨rfl, B7⟩; have K7 := hid (K6.out.later B7); clear B7))
      go_ret2
      exact ⟨by rw [EE.out.1, HLN.out]; rfl, K7.out.tail.tail.tail.tail⟩
    · have EE : Hid (e.err items = ersL (er1 e.cells items) (kindT e.k) ∧ e.line items data = []) := hid (by
        have h1 : e.err items = ersL (er1 e.cells items) (kindT e.k) := by unfold Ev.err; rw [if_neg (by simp [hF])]
        exact ⟨h1, by unfold Ev.line; rw [if_pos (by rw [h1]; exact hX)]⟩)
      rw [EE.out.1, EE.out.2]
      have hF' : e.inForm = true := hF
      rw [hF'] at CF
      unfold ThPost at CT
      unfold WRPost at CW
      have hx' : (ersL (er1 e.cells items) (kindT e.k) == 0) = false := by simpa using hX
      clear A hE hT hw hJ hF hF' ekn hkn hk HK EE hX
      generalize ersL (er1 e.cells items) (kindT e.k) = X at *
      generalize (kindT e.k).map (thV w.heap.size) = LV at *
      generalize (kindT e.k).length = n at *
      generalize wdsL (wdT e.cells items data) (er1 e.cells items) (kindT e.k) = WS at *
      generalize e.cells = EC at *
      go_enter Tryz.func11, Tryz.ntmps11
      go_upto_region 1 with fail
      generalize w.alloc (.cells EC.toArray 36) = w1 at *
      go_wp2_with (first | (refine wpList_load_row rfl 36 _ rfl w.heap.size rfl 36 EC.toArray (0, 0) _ HB.out Tryz.underlying36 rfl I36.out ?_) | (go_at_call 26; refine (CF.out _ _ A1.out).mono ?_; rintro r w2 ⟨rfl, A2⟩; have K2 := hid A2; clear A2) | (go_at_call 28; refine (CT.out _ K2.out).mono ?_; rintro r w3 ⟨b3, rfl, A3⟩; have K3 := hid A3; clear A3) | (go_at_call 27; refine (CW.out _ _ K3.out).mono ?_; rintro r w4 ⟨v4, rfl, A4⟩; have K4 := hid A4; clear A4))
      go_ret2
      exact ⟨rfl, K4.out.tail.tail.tail⟩
  · have hF' : e.inForm = false := by simpa using hF
    have EE : Hid (e.err items = 190 ∧ e.line items data = []) := hid (by
      have h1 : e.err items = 190 := by unfold Ev.err; rw [if_pos hF']
      exact ⟨h1, by unfold Ev.line; rw [if_pos (by rw [h1]; decide)]⟩)
    rw [EE.out.1, EE.out.2]
    rw [hF'] at CF
    clear A hE hT hw hJ hF hF' EE CT ZC
    generalize e.cells = EC at *
    go_enter Tryz.func11, Tryz.ntmps11
    go_upto_region 1 with fail
    generalize w.alloc (.cells EC.toArray 36) = w1 at *
    go_wp2_with (first | (refine wpList_load_row rfl 36 _ rfl w.heap.size rfl 36 EC.toArray (0, 0) _ HB.out Tryz.underlying36 rfl I36.out ?_) | (go_at_call 26; refine (CF.out _ _ A1.out).mono ?_; rintro r w2 ⟨rfl, A2⟩; have K2 := hid A2; clear A2))
    go_ret2
    exact ⟨rfl, K2.out.tail⟩
end Go.Proofs.YtfeppannfcbakaaGreatDoor

namespace Go.Proofs.YtfeppannfcbakaaGreatDoor
open Go.RowKit
set_option linter.unusedVariables false

/-- A word's kind of event; a word's status. -/
def evW (x : List UInt8) : Option Nat := findW x 1 (kdN.drop 1)
def evA (x : List UInt8) : Value := .tuple #[.int .i64 (((evW x).getD 0 : Nat) : Int), .bool (evW x).isSome]
def stW (x : List UInt8) : Option Nat := findW x 1 (stN.drop 1)
def stA (x : List UInt8) : Value := .tuple #[.int .i64 (((stW x).getD 0 : Nat) : Int), .bool (stW x).isSome]

set_option maxHeartbeats 800000 in
set_option maxRecDepth 1000000 in
theorem evOf_any {x : List UInt8} {w : World} (T : Kdt w) : Calls Tryz.prog 72 #[.string ⟨x.toArray⟩] w fun e w' => e = .returned (evA x) ∧ w' = w := by
  have kl : kdN.length = 12 := rfl
  have TC : Hid (∀ i, i < 12 → w.cell? ⟨0, i, none⟩ = some (.string ⟨(kdN.getD i []).toArray⟩)) := hid (fun i hi => T.2 i hi)
  have EQ : Hid (∀ k, ((⟨(kdN.getD k []).toArray⟩ : ByteArray).toList == (⟨x.toArray⟩ : ByteArray).toList) = decide (kdN.getD k [] = x)) := hid (fun k => ba_ne)
  have FA : Hid (∀ k, k < 12 → findW x k (kdN.drop k) = if kdN.getD k [] = x then some k else findW x (k + 1) (kdN.drop (k + 1))) := hid (fun k hk => findW_at (by rw [kl]; exact hk))
  have FE : Hid (findW x 12 (kdN.drop 12) = none) := hid rfl
  have HA : Hid (findW x 1 (kdN.drop 1) = evW x) := hid rfl
  have key : ∀ D, evW x = D → Hid (evA x = .tuple #[.int .i64 ((D.getD 0 : Nat) : Int), .bool D.isSome]) := fun D h => hid (by unfold evA; rw [h])
  generalize evA x = AN at *
  generalize evW x = AW at *
  clear T kl
  generalize hX : ByteArray.mk x.toArray = X at *
  clear hX
  go_enter Tryz.func72, Tryz.ntmps72
  go_wp2
  go_loopw [4] (fun iv wr => ∃ i : Nat, 1 ≤ i ∧ i ≤ 12 ∧ iv = .int .i64 (i : Int) ∧ wr = w ∧ Hid (findW x i (kdN.drop i) = AW)) (fun iv _ => 12 - (intOf iv).toNat)
  case atStart => exact ⟨1, by omega, by omega, rfl, rfl, HA⟩
  case round =>
    obtain ⟨i, hi1, hi9, rfl, rfl, hR⟩ := hrel
    clear HA
    by_cases hlt : i < 12
    · have hlt' : (i : Int) ≤ 11 := by omega
      have hlt2 : (i : Int) < 12 := by omega
      have h1 := TC.out i hlt
      have eq := EQ.out i
      by_cases hx : kdN.getD i [] = x
      · rw [decide_eq_true hx] at eq
        have fin := key (some i) (by rw [← hR.out, FA.out i hlt, if_pos hx])
        generalize ByteArray.mk (kdN.getD i []).toArray = Y at *
        clear hx key
        go_wp2
        go_ret2
        exact ⟨by rw [fin.out]; rfl, rfl⟩
      · rw [decide_eq_false hx] at eq
        have nx : Hid (findW x (i + 1) (kdN.drop (i + 1)) = AW) := hid (by rw [← hR.out, FA.out i hlt, if_neg hx])
        generalize ByteArray.mk (kdN.getD i []).toArray = Y at *
        clear hx key
        go_wp2
        go_roundw
        case rel => exact ⟨i + 1, by omega, by omega, by go_num, trivial, nx⟩
        case measure => simp [intOf]; omega
    · have hlt' : ¬ (i : Int) ≤ 11 := by omega
      have ek : i = 12 := by omega
      have fin := key none (by rw [← hR.out, ek]; exact FE.out)
      clear ek key
      go_wp2
      go_ret2
      exact ⟨by rw [fin.out]; rfl, rfl⟩

set_option maxHeartbeats 800000 in
set_option maxRecDepth 1000000 in
theorem stOf_any {x : List UInt8} {w : World} (T : Stt w) : Calls Tryz.prog 150 #[.string ⟨x.toArray⟩] w fun e w' => e = .returned (stA x) ∧ w' = w := by
  have kl : stN.length = 4 := rfl
  have TC : Hid (∀ i, i < 4 → w.cell? ⟨1, i, none⟩ = some (.string ⟨(stN.getD i []).toArray⟩)) := hid (fun i hi => T.2 i hi)
  have EQ : Hid (∀ k, ((⟨(stN.getD k []).toArray⟩ : ByteArray).toList == (⟨x.toArray⟩ : ByteArray).toList) = decide (stN.getD k [] = x)) := hid (fun k => ba_ne)
  have FA : Hid (∀ k, k < 4 → findW x k (stN.drop k) = if stN.getD k [] = x then some k else findW x (k + 1) (stN.drop (k + 1))) := hid (fun k hk => findW_at (by rw [kl]; exact hk))
  have FE : Hid (findW x 4 (stN.drop 4) = none) := hid rfl
  have HA : Hid (findW x 1 (stN.drop 1) = stW x) := hid rfl
  have key : ∀ D, stW x = D → Hid (stA x = .tuple #[.int .i64 ((D.getD 0 : Nat) : Int), .bool D.isSome]) := fun D h => hid (by unfold stA; rw [h])
  generalize stA x = AN at *
  generalize stW x = AW at *
  clear T kl
  generalize hX : ByteArray.mk x.toArray = X at *
  clear hX
  go_enter Tryz.func150, Tryz.ntmps150
  go_wp2
  go_loopw [4] (fun iv wr => ∃ i : Nat, 1 ≤ i ∧ i ≤ 4 ∧ iv = .int .i64 (i : Int) ∧ wr = w ∧ Hid (findW x i (stN.drop i) = AW)) (fun iv _ => 4 - (intOf iv).toNat)
  case atStart => exact ⟨1, by omega, by omega, rfl, rfl, HA⟩
  case round =>
    obtain ⟨i, hi1, hi9, rfl, rfl, hR⟩ := hrel
    clear HA
    by_cases hlt : i < 4
    · have hlt' : (i : Int) ≤ 3 := by omega
      have hlt2 : (i : Int) < 4 := by omega
      have h1 := TC.out i hlt
      have eq := EQ.out i
      by_cases hx : stN.getD i [] = x
      · rw [decide_eq_true hx] at eq
        have fin := key (some i) (by rw [← hR.out, FA.out i hlt, if_pos hx])
        generalize ByteArray.mk (stN.getD i []).toArray = Y at *
        clear hx key
        go_wp2
        go_ret2
        exact ⟨by rw [fin.out]; rfl, rfl⟩
      · rw [decide_eq_false hx] at eq
        have nx : Hid (findW x (i + 1) (stN.drop (i + 1)) = AW) := hid (by rw [← hR.out, FA.out i hlt, if_neg hx])
        generalize ByteArray.mk (stN.getD i []).toArray = Y at *
        clear hx key
        go_wp2
        go_roundw
        case rel => exact ⟨i + 1, by omega, by omega, by go_num, trivial, nx⟩
        case measure => simp [intOf]; omega
    · have hlt' : ¬ (i : Int) ≤ 3 := by omega
      have ek : i = 4 := by omega
      have fin := key none (by rw [← hR.out, ek]; exact FE.out)
      clear ek key
      go_wp2
      go_ret2
      exact ⟨by rw [fin.out]; rfl, rfl⟩

/-- A reader of words: a block that holds the list that is left. -/
theorem next_nil {R : Nat} {ao : Option Addr} {c : Nat} {cs : List Comp} {w : World} (A : All (blkC R [.slice ao 0 c] 124 :: cs) w) : Calls Tryz.prog 71 #[.pointer (some ⟨R, 0, none⟩)] w fun e w' => e = .returned (.tuple #[.string ⟨#[]⟩, .bool false]) ∧ w' = w := by
  have hc := cell_in (P := R) (o := 0) A (List.mem_cons_self) rfl
  clear A
  go_enter Tryz.func71, Tryz.ntmps71
  go_wp2
  go_ret2
  exact ⟨rfl, rfl⟩
set_option maxHeartbeats 800000 in
theorem next_cons {R : Nat} {s : Value} {x : List UInt8} {r : Ws} {cs : List Comp} {w : World} (A : All (blkC R [s] 124 :: cs) w) (hR : Rt w s (x :: r)) (hn : r.length < 140737488355327) :
    Calls Tryz.prog 71 #[.pointer (some ⟨R, 0, none⟩)] w fun e w' => e = .returned (.tuple #[.string ⟨x.toArray⟩, .bool true]) ∧ ∃ s', (∀ W, Rt W s (x :: r) → Rt W s' r) ∧ All (blkC R [s'] 124 :: cs) w' := by
  have hR0 := hR
  obtain ⟨ao, c, rfl, hcn, hx⟩ := hR
  rcases hx with h | ⟨g, o, rfl, hg, hcell⟩
  · simp at h
  have hx0 : w.cell? ⟨g, o, none⟩ = some (.string ⟨x.toArray⟩) := hcell 0 (by simp)
  have hc := cell_in (P := R) (o := 0) A (List.mem_cons_self) rfl
  have hf := free_at (A.blk (List.mem_cons_self)) 0
  have hRl : R < w.heap.size := A.1.2.2 R (by simp [blkC])
  simp only [List.length_cons] at hcn hc
  clear hcell hR0
  by_cases h1 : c = 1
  · have hr : r = [] := List.eq_nil_of_length_eq_zero (by omega)
    subst hr h1
    have K2 := hid (A.setBlk 0 (.slice (some ⟨g, o, none⟩) 0 0))
    clear A
    go_enter Tryz.func71, Tryz.ntmps71
    go_wp2
    go_ret2
    exact ⟨rfl, _, fun W _ => ⟨_, 0, rfl, Nat.le_refl _, Or.inl rfl⟩, K2.out⟩
  · have K2 := hid (A.setBlk 0 (.slice (some ⟨g, o + 1, none⟩) r.length (c - 1)))
    have RT : Hid (∀ W, Rt W (.slice (some ⟨g, o, none⟩) (x :: r).length c) (x :: r) → Rt W (.slice (some ⟨g, o + 1, none⟩) r.length (c - 1)) r) := hid (fun W hW => by
      obtain ⟨a1, c1, e1, hc1, hx1⟩ := hW
      injection e1 with e2 e3 e4
      subst e2 e4
      rcases hx1 with h | ⟨g', o', e5, hg', hc'⟩
      · simp at h
      · injection e5 with e6
        injection e6 with e7 e8
        subst e7 e8
        refine ⟨_, _, rfl, by simp only [List.length_cons] at hc1; omega, Or.inr ⟨_, _, rfl, hg', fun j hj => ?_⟩⟩
        have := hc' (j + 1) (by simp; omega)
        rw [show o + 1 + j = o + (j + 1) by omega]
        simpa using this)
    clear A
    generalize ByteArray.mk x.toArray = X at *
    simp only [List.length_cons] at RT ⊢
    generalize hrl : r.length = n at *
    have e1 : (((n + 1 : Nat) : Int) == 0) = false := by simp; omega
    have e2 : (0 : Int) < ((n + 1 : Nat) : Int) := by omega
    go_enter Tryz.func71, Tryz.ntmps71
    go_wp2
    go_ret2
    exact ⟨rfl, _, RT.out, K2.out⟩
end Go.Proofs.YtfeppannfcbakaaGreatDoor
