import Derived.Test.YtfeppannfcbakaaGreatDoorEv17
import Derived.Test.YtfeppannfcbakaaGreatDoorJ18
import Derived.Test.YtfeppannfcbakaaGreatDoorJ14
import Derived.Test.YtfeppannfcbakaaGreatDoorJ10
namespace Go.Proofs.YtfeppannfcbakaaGreatDoor
open Go.RowKit
set_option linter.unusedVariables false
set_option maxRecDepth 100000

/-- What was made above a world, beside what that world held. -/
theorem All.merge {xs cs : List Comp} {w1 w2 : World} (h : All (xs ++ [inC w1]) w2) (hc : All cs w1) : All (xs ++ cs) w2 := by
  have hb : Below w1.heap.size w1 w2 := h.into (by simp)
  induction xs with
  | nil => exact hc.later hb
  | cons x r ih =>
    obtain ⟨h1, h2, h3⟩ := h
    refine ⟨h1, fun d hd => ?_, ih h3⟩
    rcases List.mem_append.1 hd with hd | hd
    · exact h2 d (by simp [hd])
    · intro k hk hk2
      exact h2 (inC w1) (by simp) k hk (List.mem_range.2 ((hc.mem hd).2.2 k hk2))
def rlErr (l : List UInt8) : Int := if (splitW l).err ≠ 0 then ((splitW l).err : Int) else reErr (splitW l).ws
/-- What ReadLine leaves. -/
def RLPost (l : List UInt8) (cs : List Comp) (e : Ending) (w' : World) : Prop :=
  ∃ EC : List Value, e = .returned (.tuple #[.agg EC.toArray, .int .i64 (rlErr l)]) ∧ (rlErr l ≠ 0 → EC = (Ev.zero 0).cells ∧ All cs w') ∧ (rlErr l = 0 → ∃ x r k vs, (splitW l).ws = x :: r ∧ evW x = some k ∧ vs.length = (rdsL ((kindT k).flatMap sub) r).2.2.length ∧ EC = putL (Ev.zero k).cells ((kindT k).flatMap sub) (rdsL ((kindT k).flatMap sub) r).2.2 vs ∧ All (ownL (rdsL ((kindT k).flatMap sub) r).2.2 vs ++ cs) w')
set_option maxHeartbeats 6400000 in
set_option maxRecDepth 1000000 in
theorem ReadLine_any {l : List UInt8} {cs : List Comp} {w : World} (hE : ∀ W, All cs W → En W) (hl : l.length ≤ 140737488355328) (hw : (splitW l).ws.length * 16 ≤ 140737488355328 ∧ ∀ y ∈ (splitW l).ws, y.length ≤ 140737488355328) (A : All cs w) : Calls Tryz.prog 14 #[.string ⟨l.toArray⟩] w (RLPost l cs) := by
  have A1 := hid (A.addBlk (Ev.zero 0).cells 36)
  have CS := hid (Split_any A1.out hl)
  have I36 : Hid ((Tryz.prog.info? 36).map (·.size) = some (Ev.zero 0).cells.toArray.size) := hid (by kernel_rfl)
  have O36 : Hid ((Ev.zero 0).cells.toArray.all (·.oneCell') = true) := hid (by kernel_rfl)
  have SET : Hid (∀ W (ds : List Comp) (EC : List Value), All (blkC w.heap.size (Ev.zero 0).cells 36 :: ds) W → All (blkC w.heap.size EC 36 :: ds) (W.setRow w.heap.size EC.toArray)) := hid (fun W ds EC h => h.setRow (vs' := EC))
  unfold SplitPost at CS
  by_cases he : (splitW l).err ≠ 0
  · have ER : Hid (rlErr l = ((splitW l).err : Int)) := hid (by unfold rlErr; rw [if_pos he])
    have hx : (((splitW l).err : Int) == 0) = false := by simp; omega
    have HX : Hid (((splitW l).err : Int) ≠ 0) := hid (by omega)
    clear A hE hl hw he
    unfold RLPost
    generalize ((splitW l).err : Int) = X at *
    generalize ((splitW l).at : Int) = Y at *
    generalize ByteArray.mk l.toArray = L at *
    go_enter Tryz.func14, Tryz.ntmps14
    go_upto_region 1 with fail
    change Code.wp _ _ _ _ (w.alloc (.cells (Ev.zero 0).cells.toArray 36))
    generalize w.alloc (.cells (Ev.zero 0).cells.toArray 36) = w1 at *
    go_wp2_with (first | (go_at_call 35; refine CS.out.mono ?_; rintro e w2 ⟨v2, rfl, A2⟩; have HB := hid (A2.tail.blk (g := w.heap.size) (vs := (Ev.zero 0).cells) (t := 36) (List.mem_cons_self)); have K8 := hid (SET.out _ _ (Ev.zero 0).cells A2.tail); have K9 := hid (SET.out _ _ (Ev.zero 0).cells A2.swap); clear A2) | (refine wpList_store_row rfl 36 _ _ rfl w.heap.size (Ev.zero 0).cells.toArray rfl rfl 36 _ HB.out I36.out rfl O36.out ?_))
    exact ret_ev rfl rfl rfl K8.out.1.2.1 rfl rfl ⟨(Ev.zero 0).cells, by rw [ER.out]; rfl, fun _ => ⟨rfl, K8.out.tail⟩, fun h => absurd h (by rw [ER.out]; exact HX.out)⟩
  · have he0 : (splitW l).err = 0 := by simpa using he
    have ER : Hid (rlErr l = reErr (splitW l).ws) := hid (by unfold rlErr; rw [if_neg (by simp [he0])])
    rw [he0] at CS
    have CE : Hid (∀ v W, All (ownC 9 v (txW (splitW l).ws) :: blkC w.heap.size (Ev.zero 0).cells 36 :: cs) W → Calls Tryz.prog 36 #[v] W (fun e w' => ∃ EC : List Value, e = .returned (.tuple #[.agg EC.toArray, .int .i64 (reErr (splitW l).ws)]) ∧ EC.length = 33 ∧ EC.toArray.all (·.oneCell') = true ∧ ∃ os : List Comp, All (blkC w.heap.size (Ev.zero 0).cells 36 :: (os ++ cs)) w' ∧ (reErr (splitW l).ws ≠ 0 → EC = (Ev.zero 0).cells ∧ os = []) ∧ (reErr (splitW l).ws = 0 → ∃ x r k vs, (splitW l).ws = x :: r ∧ evW x = some k ∧ vs.length = (rdsL ((kindT k).flatMap sub) r).2.2.length ∧ EC = putL (Ev.zero k).cells ((kindT k).flatMap sub) (rdsL ((kindT k).flatMap sub) r).2.2 vs ∧ os = ownL (rdsL ((kindT k).flatMap sub) r).2.2 vs))) := hid (fun v W hW => by
      refine (readEvent_any (cs := [inC W]) (w0 := W) (fun V hV => hE V (hW.tail.tail.later (hV.into (List.mem_cons_self)))) (rt_own hW) (List.mem_cons_self) hw.1 hw.2 (All.came W)).mono ?_
      rintro e w' ⟨EC, he', hbad, hok⟩
      by_cases hz : reErr (splitW l).ws = 0
      · obtain ⟨x, r, k, vs, e1, e2, e3, e4, hA⟩ := hok hz
        have hM := All.merge hA hW.tail
        refine ⟨EC, he', by rw [e4, putL_len]; rfl, ?_, _, hM.perm List.perm_middle, fun h => absurd hz h, fun _ => ⟨x, r, k, vs, e1, e2, e3, e4, rfl⟩⟩
        rw [e4]
        exact all_oneCell_toArray (putL_one (fun u hu => (Array.all_eq_true_iff_forall_mem.1 (show (Ev.zero k).cells.toArray.all (·.oneCell') = true by kernel_rfl)) u (by simpa using hu)) hA)
      · obtain ⟨e1, hA⟩ := hbad hz
        refine ⟨EC, he', by rw [e1]; rfl, by rw [e1]; exact O36.out, [], All.merge (xs := []) hA hW.tail, fun _ => ⟨e1, rfl⟩, fun h => absurd h hz⟩)
    clear A hE hl hw he he0
    unfold RLPost
    rw [ER.out]
    generalize (splitW l).ws = WS at *
    generalize hRE : reErr WS = RE at *
    clear hRE ER
    generalize ((splitW l).at : Int) = Y at *
    generalize ByteArray.mk l.toArray = L at *
    go_enter Tryz.func14, Tryz.ntmps14
    go_upto_region 1 with fail
    change Code.wp _ _ _ _ (w.alloc (.cells (Ev.zero 0).cells.toArray 36))
    generalize w.alloc (.cells (Ev.zero 0).cells.toArray 36) = w1 at *
    go_wp2_with (first | (go_at_call 35; refine CS.out.mono ?_; rintro e w2 ⟨v2, rfl, A2⟩; have K2 := hid A2; clear A2) | (go_at_call 36; refine (CE.out _ _ K2.out).mono ?_; rintro e w3 ⟨EC, rfl, hlen, hone, os, A3, hb3, hg3⟩; have HB := hid (A3.blk (g := w.heap.size) (vs := (Ev.zero 0).cells) (t := 36) (List.mem_cons_self)); have K8 := hid (SET.out _ _ EC A3); have HL := hid hlen; have HO := hid hone; have HBAD := hid hb3; have HGOOD := hid hg3; have IE : Hid ((Tryz.prog.info? 36).map (·.size) = some EC.toArray.size) := hid (by rw [List.size_toArray, hlen]; kernel_rfl); have ZE : Hid ((Ev.zero 0).cells.toArray.size = EC.toArray.size) := hid (by rw [List.size_toArray, List.size_toArray, hlen]; rfl); clear A3 hlen hone hb3 hg3) | (refine wpList_store_row rfl 36 _ _ rfl w.heap.size EC.toArray rfl rfl 36 _ HB.out IE.out ZE.out HO.out ?_))
    refine ret_ev rfl rfl rfl K8.out.1.2.1 HL.out rfl ⟨EC, rfl, fun h => ?_, fun h => ?_⟩
    · obtain ⟨e1, e2⟩ := HBAD.out h
      have := K8.out.tail
      rw [e2] at this
      exact ⟨e1, this⟩
    · obtain ⟨x, r, k, vs, e1, e2, e3, e4, e5⟩ := HGOOD.out h
      have := K8.out.tail
      rw [e5] at this
      exact ⟨x, r, k, vs, e1, e2, e3, e4, this⟩
end Go.Proofs.YtfeppannfcbakaaGreatDoor

namespace Go.Proofs.YtfeppannfcbakaaGreatDoor
open Go.RowKit
set_option linter.unusedVariables false
set_option maxRecDepth 100000

theorem opA_w64 {k n m : Int} {nm tx x : List UInt8} (hx : x ∈ opA k nm tx n m) : x.length ≤ 64 := by
  unfold opA at hx
  split at hx
  · simp at hx
  · rename_i h
    obtain ⟨hk1, hk8, hn0, hn1, hm0, hm1, l1, l2, _⟩ := chkO_zero (Classical.byContradiction h)
    unfold opW at hx
    rcases List.mem_cons.1 hx with rfl | hx
    · have := nmN_len k.toNat
      omega
    · obtain ⟨c, _, rfl⟩ := List.mem_map.1 hx
      have d1 := digits_short (v := n.toNat) (by omega)
      have d2 := digits_short (v := m.toNat) (by omega)
      unfold fieldW
      split
      · omega
      · split
        · omega
        · split <;> omega
theorem resA_len (c n : Int) (l : Ws) : (resA c n l).length ≤ 11 := by
  unfold resA
  split
  · simp
  · rename_i h
    obtain ⟨_, _, _, _, _, h8, _⟩ := chk_zero (Classical.byContradiction h)
    unfold resW
    split
    · simp only [List.length_cons]
      omega
    · simp
theorem cd_len (k : Nat) : (cdN.getD k []).length ≤ 10 := by
  by_cases h : k < 5
  · have key : ∀ a : Fin 5, (cdN.getD a.val []).length ≤ 10 := by decide
    exact key ⟨k, h⟩
  · rw [List.getD, List.getElem?_eq_none (by simp [cdN]; omega)]
    simp
theorem resA_w64 {c n : Int} {l : Ws} {x : List UInt8} (hx : x ∈ resA c n l) : x.length ≤ 64 := by
  unfold resA at hx
  split at hx
  · simp at hx
  · rename_i h
    obtain ⟨_, _, _, h0, h1, h8, h64⟩ := chk_zero (Classical.byContradiction h)
    unfold resW at hx
    rcases List.mem_cons.1 hx with rfl | hx
    · have := cd_len c.toNat
      omega
    · split at hx
      · rcases List.mem_cons.1 hx with rfl | hx
        · have := digits_short (v := n.toNat) (by omega)
          omega
        · rcases List.mem_cons.1 hx with rfl | hx
          · have := digits_short (v := l.length) (by omega)
            omega
          · exact h64 x hx
      · simp at hx
theorem chkO_nn {k : Int} {nm tx : List UInt8} {n m : Int} (h : chkO k nm tx n m = 0) : 1 ≤ k ∧ k ≤ 8 ∧ 0 ≤ n ∧ n ≤ 1099511627776 ∧ 0 ≤ m ∧ m ≤ 1099511627776 ∧ nm.length ≤ 64 ∧ tx.length ≤ 64 := by
  obtain ⟨a, b, c, d, e, f, g, i, _⟩ := chkO_zero h
  exact ⟨a, b, c, d, e, f, g, i⟩
theorem hxD_nat {n : Nat} (h : n < 16) : hexN (hxD.getD n 0).toNat = some n := by
  have hh : ∀ a : Fin 16, hexN (hxD.getD a.val 0).toNat = some a.val := by decide
  exact hh ⟨n, h⟩
theorem hxD_of {b : UInt8} {d : Nat} (h : hexN b.toNat = some d) : hxD.getD d 0 = b := by
  have hd := hexN_lt h
  have hh : ∀ a : Fin 16, hxD.getD a.val 0 = hexD a.val := by decide
  rw [hh ⟨d, hd⟩]
  exact hexD_hexN h
theorem hexW_cons (b : UInt8) (r : List UInt8) : hexW (b :: r) = hxD.getD (b.toNat / 16) 0 :: hxD.getD (b.toNat % 16) 0 :: hexW r := by simp [hexW, hexB]
theorem hexR_hexW : ∀ d : List UInt8, hexR (hexW d) = some d
  | [] => rfl
  | b :: r => by
    have hb := b.toNat_lt
    rw [hexW_cons, hexR, hxD_nat (by omega), hxD_nat (by omega)]
    simp only [hexR_hexW r, Option.map_some]
    rw [show 16 * (b.toNat / 16) + b.toNat % 16 = b.toNat by omega]
    simp
theorem hexW_hexR : ∀ {l d : List UInt8}, hexR l = some d → hexW d = l
  | [], d, h => by simp only [hexR, Option.some.injEq] at h; subst h; rfl
  | [_], d, h => by simp [hexR] at h
  | a :: b :: r, d, h => by
    rw [hexR] at h
    cases ha : hexN a.toNat with
    | none => rw [ha] at h; simp at h
    | some x =>
      cases hb : hexN b.toNat with
      | none => rw [ha, hb] at h; simp at h
      | some y =>
        rw [ha, hb] at h
        simp only [Option.map_eq_some_iff] at h
        obtain ⟨d', h1, rfl⟩ := h
        have hx := hexN_lt ha
        have hy := hexN_lt hb
        rw [hexW_cons, hexW_hexR h1]
        have e : (UInt8.ofNat (16 * x + y)).toNat = 16 * x + y := n_of _ (by omega)
        rw [e, show (16 * x + y) / 16 = x by omega, show (16 * x + y) % 16 = y by omega, hxD_of ha, hxD_of hb]
theorem datR_hexW {d : List UInt8} (h : d.length ≤ 2304) : datR (hexW d) = some d := by
  unfold datR
  rw [if_neg (by rw [hexW_len]; omega), hexR_hexW]
theorem datR_ok {l d : List UInt8} (h : datR l = some d) : hexW d = l ∧ d.length ≤ 2304 := by
  unfold datR at h
  split at h
  · simp at h
  · have e := hexW_hexR h
    refine ⟨e, ?_⟩
    have := hexW_len d
    rw [e] at this
    omega
theorem itoa_back {v : Int} (h0 : 0 ≤ v) (h1 : v ≤ 9223372036854775807) : numW (Lib.itoa v) = some v.toNat := by
  obtain ⟨n, rfl⟩ := Int.eq_ofNat_of_zero_le h0
  rw [itoa_nat, Int.toNat_natCast]
  exact numW_digits (by omega)
theorem st_back {k : Int} (h1 : 1 ≤ k) (h3 : k ≤ 3) : stW (stN.getD k.toNat []) = some k.toNat := by
  obtain rfl | rfl | rfl : k = 1 ∨ k = 2 ∨ k = 3 := by omega
  all_goals rfl
theorem st_ok {x : List UInt8} {k : Nat} (h : stW x = some k) : 1 ≤ k ∧ k ≤ 3 ∧ stN.getD k [] = x := by
  obtain ⟨h1, h2, h3⟩ := findW_some h
  refine ⟨h1, by simp [stN] at h2; omega, ?_⟩
  obtain rfl | rfl | rfl : k = 1 ∨ k = 2 ∨ k = 3 := by simp [stN] at h2; omega
  all_goals exact h3
theorem ev_back {k : Int} (h1 : 1 ≤ k) (h3 : k ≤ 11) : evW (kdN.getD k.toNat []) = some k.toNat := by
  obtain rfl | rfl | rfl | rfl | rfl | rfl | rfl | rfl | rfl | rfl | rfl : k = 1 ∨ k = 2 ∨ k = 3 ∨ k = 4 ∨ k = 5 ∨ k = 6 ∨ k = 7 ∨ k = 8 ∨ k = 9 ∨ k = 10 ∨ k = 11 := by omega
  all_goals rfl
theorem ev_ok {x : List UInt8} {k : Nat} (h : evW x = some k) : 1 ≤ k ∧ k ≤ 11 ∧ kdN.getD k [] = x := by
  obtain ⟨h1, h2, h3⟩ := findW_some h
  have h4 : k < 12 := by simp [kdN] at h2; omega
  refine ⟨h1, by omega, ?_⟩
  obtain rfl | rfl | rfl | rfl | rfl | rfl | rfl | rfl | rfl | rfl | rfl : k = 1 ∨ k = 2 ∨ k = 3 ∨ k = 4 ∨ k = 5 ∨ k = 6 ∨ k = 7 ∨ k = 8 ∨ k = 9 ∨ k = 10 ∨ k = 11 := by omega
  all_goals exact h3

/-- A thing's content, by the cells. -/
def ct1 (C : List Value) (items : Ws) (data : List UInt8) : Th → Ct
  | .int o => .int (valI C o)
  | .cod o => .int (valI C o)
  | .sta o => .int (valI C o)
  | .fre o => .bool (boolV C o)
  | .dat _ => .dat data
  | .op o => .op ⟨valI C o, strV C (o + 1), strV C (o + 2), (valI C (o + 3)).toNat, (valI C (o + 4)).toNat⟩
  | .res o => .res (valI C o) (valI C (o + 1)) items
  | _ => .none
/-- That it may be written. -/
def Fit (C : List Value) (items : Ws) (data : List UInt8) : Th → Prop
  | .int o => 0 ≤ valI C o ∧ valI C o ≤ 9223372036854775807
  | .cod o => 0 ≤ valI C o ∧ valI C o ≤ 9223372036854775807
  | .sta o => 1 ≤ valI C o ∧ valI C o ≤ 3
  | .fre _ => True
  | .dat _ => data.length ≤ 2304
  | .op o => er1 C items (.op o) = 0
  | .res o => er1 C items (.res o) = 0
  | _ => False
theorem rd1_back {C : List Value} {items : Ws} {data : List UInt8} {t : Th} {b : Ws} (h : Fit C items data t) : rd1 t (wd1 C items data t ++ b) = (0, (wd1 C items data t).length, ct1 C items data t) := by
  cases t with
  | int o =>
    obtain ⟨h0, h1⟩ := h
    simp only [wd1, List.cons_append, List.nil_append, rd1, itoa_back h0 h1, ct1]
    simp
    omega
  | cod o =>
    obtain ⟨h0, h1⟩ := h
    simp only [wd1, List.cons_append, List.nil_append, rd1, itoa_back h0 h1, ct1]
    simp
    omega
  | sta o =>
    obtain ⟨h0, h1⟩ := h
    simp only [wd1, List.cons_append, List.nil_append, rd1, st_back h0 h1, ct1]
    simp
    omega
  | fre o =>
    simp only [wd1, List.cons_append, List.nil_append, rd1, ct1]
    cases boolV C o <;> rfl
  | dat o =>
    simp only [wd1, List.cons_append, List.nil_append, rd1, datR_hexW h, ct1]
    simp
  | op o =>
    have h' : chkO (valI C o) (strV C (o + 1)) (strV C (o + 2)) (valI C (o + 3)) (valI C (o + 4)) = 0 := h
    simp only [wd1, rd1, readO_back h', ct1]
  | res o =>
    have h' : chkW (valI C o) (valI C (o + 1)) items = 0 := h
    simp only [wd1, rd1, readR_back h', ct1]
  | look o => exact absurd h (by simp [Fit])
  | sht o => exact absurd h (by simp [Fit])
theorem rdsL_back {C : List Value} {items : Ws} {data : List UInt8} : ∀ {ts : List Th} {b : Ws}, (∀ t ∈ ts, Fit C items data t) → rdsL ts (ts.flatMap (wd1 C items data) ++ b) = (0, (ts.flatMap (wd1 C items data)).length, ts.map (ct1 C items data))
  | [], b, h => rfl
  | t :: r, b, h => by
    have e : (t :: r).flatMap (wd1 C items data) ++ b = wd1 C items data t ++ (r.flatMap (wd1 C items data) ++ b) := by simp
    have ih := rdsL_back (b := b) (fun x hx => h x (List.mem_cons_of_mem _ hx))
    rw [e, rdsL, rd1_back (h t (List.mem_cons_self))]
    simp only [ne_eq, not_true_eq_false, if_false, List.drop_left, ih]
    simp
/-- How long a thing's words are at most, with the blanks. -/
def bd1 : Th → Nat
  | .dat _ => 4700
  | .op _ => 1100
  | .res _ => 2900
  | _ => 100
theorem escW_le : ∀ x : List UInt8, (escW x).length ≤ 4 * x.length
  | [] => by simp [escW]
  | b :: r => by
    have := escW_le r
    have e : escW (b :: r) = escB b ++ escW r := by simp [escW]
    have hb : (escB b).length ≤ 4 := by
      unfold escB
      repeat' split
      all_goals simp
    rw [e, List.length_append, List.length_cons]
    omega
theorem wrtW_le (x : List UInt8) : (wrtW x).length ≤ 4 * x.length + 2 := by
  unfold wrtW
  split
  · omega
  · have := escW_le x
    simp only [List.length_cons, List.length_append, List.length_nil]
    omega
theorem wrtW_hex (d : List UInt8) : (wrtW (hexW d)).length ≤ 2 * d.length + 2 := by
  unfold wrtW
  split
  · rw [hexW_len]; omega
  · rename_i h
    cases d with
    | nil => simp [hexW, escW]
    | cons b r =>
      exfalso
      apply h
      refine decide_eq_true ⟨by rw [hexW_cons]; simp, ?_⟩
      have key : ∀ a : Fin 16, bareN (hxD.getD a.val 0).toNat = true := by decide
      intro x hx
      unfold hexW at hx
      obtain ⟨c, _, hc⟩ := List.mem_flatMap.1 hx
      have hc' := c.toNat_lt
      simp only [hexB, List.mem_cons, List.not_mem_nil, or_false] at hc
      rcases hc with rfl | rfl
      · exact key ⟨c.toNat / 16, by omega⟩
      · exact key ⟨c.toNat % 16, by omega⟩
def szW (ws : Ws) : Nat := (ws.map fun x => (wrtW x).length + 1).sum
theorem szW_app (a b : Ws) : szW (a ++ b) = szW a + szW b := by simp [szW]
theorem szW_le {ws : Ws} {n : Nat} (h : ∀ x ∈ ws, x.length ≤ n) : szW ws ≤ ws.length * (4 * n + 3) := by
  induction ws with
  | nil => simp [szW]
  | cons x r ih =>
    have h1 := ih (fun y hy => h y (List.mem_cons_of_mem _ hy))
    have h2 := wrtW_le x
    have h3 := h x (List.mem_cons_self)
    simp only [szW, List.map_cons, List.sum_cons, List.length_cons] at h1 ⊢
    rw [Nat.add_mul]
    omega
theorem joinW_le : ∀ ws : Ws, (joinW ws).length ≤ szW ws
  | [] => by simp [joinW, szW]
  | x :: r => by
    have e : (tailW r).length = szW r := by
      unfold tailW szW
      rw [List.length_flatMap]
      simp
    simp only [joinW, List.length_append, e, szW, List.map_cons, List.sum_cons]
    omega
theorem itoa_len {v : Int} (h0 : 0 ≤ v) (h1 : v ≤ 9223372036854775807) : (Lib.itoa v).length ≤ 19 := by
  obtain ⟨n, rfl⟩ := Int.eq_ofNat_of_zero_le h0
  rw [itoa_nat]
  exact digits_short (by omega)
theorem sz1 {C : List Value} {items : Ws} {data : List UInt8} {t : Th} (h : Fit C items data t) : szW (wd1 C items data t) ≤ bd1 t := by
  cases t with
  | int o =>
    have := wrtW_le (Lib.itoa (valI C o))
    have := itoa_len h.1 h.2
    simp only [wd1, szW, bd1, List.map_cons, List.map_nil, List.sum_cons, List.sum_nil]
    omega
  | cod o =>
    have := wrtW_le (Lib.itoa (valI C o))
    have := itoa_len h.1 h.2
    simp only [wd1, szW, bd1, List.map_cons, List.map_nil, List.sum_cons, List.sum_nil]
    omega
  | sta o =>
    have hk : ∀ k : Int, 1 ≤ k → k ≤ 3 → (stN.getD k.toNat []).length ≤ 10 := fun k h1 h3 => by
      obtain rfl | rfl | rfl : k = 1 ∨ k = 2 ∨ k = 3 := by omega
      all_goals decide
    have := hk _ h.1 h.2
    have := wrtW_le (stN.getD (valI C o).toNat [])
    simp only [wd1, szW, bd1, List.map_cons, List.map_nil, List.sum_cons, List.sum_nil]
    omega
  | fre o =>
    simp only [wd1, szW, bd1, List.map_cons, List.map_nil, List.sum_cons, List.sum_nil]
    cases boolV C o <;> decide
  | dat o =>
    have := wrtW_hex data
    have h' : data.length ≤ 2304 := h
    simp only [wd1, szW, bd1, List.map_cons, List.map_nil, List.sum_cons, List.sum_nil]
    omega
  | op o =>
    have h1 := szW_le (n := 64) (ws := wd1 C items data (.op o)) (fun x hx => opA_w64 hx)
    have h2 : (wd1 C items data (.op o)).length ≤ 4 := opA_len _ _ _ _ _
    simp only [bd1]
    omega
  | res o =>
    have h1 := szW_le (n := 64) (ws := wd1 C items data (.res o)) (fun x hx => resA_w64 hx)
    have h2 : (wd1 C items data (.res o)).length ≤ 11 := resA_len _ _ _
    simp only [bd1]
    omega
  | look o => exact absurd h (by simp [Fit])
  | sht o => exact absurd h (by simp [Fit])
theorem szL {C : List Value} {items : Ws} {data : List UInt8} : ∀ {ts : List Th}, (∀ t ∈ ts, Fit C items data t) → szW (ts.flatMap (wd1 C items data)) ≤ (ts.map bd1).sum
  | [], h => by simp [szW]
  | t :: r, h => by
    have h1 := szL (fun x hx => h x (List.mem_cons_of_mem _ hx))
    have h2 := sz1 (h t (List.mem_cons_self))
    simp only [List.flatMap_cons, szW_app, List.map_cons, List.sum_cons]
    omega
theorem bdL (k : Int) : (((kindT k).flatMap sub).map bd1).sum ≤ 7000 := by
  unfold kindT
  repeat' split
  all_goals decide
theorem wdT_sub (C : List Value) (items : Ws) (data : List UInt8) : ∀ t : Th, wdT C items data t = (sub t).flatMap (wd1 C items data)
  | .look o => rfl
  | .sht o => rfl
  | .int o => by simp [wdT, sub]
  | .cod o => by simp [wdT, sub]
  | .fre o => by simp [wdT, sub]
  | .sta o => by simp [wdT, sub]
  | .dat o => by simp [wdT, sub]
  | .op o => by simp [wdT, sub]
  | .res o => by simp [wdT, sub]
theorem words_sub (e : Ev) (items : Ws) (data : List UInt8) : e.words items data = kdN.getD e.k.toNat [] :: ((kindT e.k).flatMap sub).flatMap (wd1 e.cells items data) := by
  unfold Ev.words
  congr 1
  rw [List.flatMap_assoc]
  congr 1
  funext t
  exact wdT_sub _ _ _ t
end Go.Proofs.YtfeppannfcbakaaGreatDoor
