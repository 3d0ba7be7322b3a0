import Derived.Test.YtfeppannfcbakaaGreatDoorJ19
namespace Go.Proofs.YtfeppannfcbakaaGreatDoor
open Go.RowKit
set_option linter.unusedVariables false
set_option maxRecDepth 100000

theorem off_kind (k : Int) : ∀ t ∈ kindT k, offT t < 33 := by
  unfold kindT
  repeat' split
  all_goals simp [offT]
theorem set_one {C : List Value} {i : Nat} {b : Value} (hC : ∀ u ∈ C, u.oneCell' = true) (hb : b.oneCell' = true) : ∀ u ∈ C.set i b, u.oneCell' = true := fun u hu => by
  rcases List.mem_or_eq_of_mem_set hu with h | h
  · exact hC u h
  · rw [h]; exact hb
theorem own_one {t : TypeId} {v : Value} {l : List Value} {cs : List Comp} {W : World} (h : All (ownC t v l :: cs) W) : v.oneCell' = true := by
  obtain ⟨a, c, e⟩ := owns_form h.1.2.1
  rw [e]; simp [Value.oneCell']
theorem putC_one {C : List Value} {t : Th} {x : Ct} {v : Value} {cs : List Comp} {W : World} (hC : ∀ u ∈ C, u.oneCell' = true) (h : All (ownOf x v ++ cs) W) : ∀ u ∈ putC C t x v, u.oneCell' = true := by
  unfold putC
  split
  · exact set_one hC (by simp [Value.oneCell'])
  · exact set_one hC (by simp [Value.oneCell'])
  · exact set_one hC (by simp [Value.oneCell'])
  · exact set_one hC (by simp [Value.oneCell'])
  · exact set_one hC (own_one h)
  · unfold setOp
    exact set_one (set_one (set_one (set_one (set_one hC (by simp [Value.oneCell'])) (by simp [Value.oneCell'])) (by simp [Value.oneCell'])) (by simp [Value.oneCell'])) (by simp [Value.oneCell'])
  · unfold setRes
    exact set_one (set_one (set_one hC (by simp [Value.oneCell'])) (by simp [Value.oneCell'])) (own_one h)
  · exact hC
theorem dropA : ∀ {xs cs : List Comp} {W : World}, All (xs ++ cs) W → All cs W
  | [], _, _, h => h
  | _ :: _, _, _, h => dropA h.tail
theorem putL_one {ts : List Th} {C : List Value} {q : List Ct} {vs : List Value} {cs : List Comp} {W : World} (hC : ∀ u ∈ C, u.oneCell' = true) (h : All (ownL q vs ++ cs) W) : ∀ u ∈ putL C ts q vs, u.oneCell' = true := by
  induction ts generalizing C q vs with
  | nil => cases q <;> cases vs <;> exact hC
  | cons t r ih =>
    cases q with
    | nil => cases vs <;> exact hC
    | cons c q =>
      cases vs with
      | nil => exact hC
      | cons v vs =>
        rw [putL]
        rw [ownL, List.append_assoc] at h
        exact ih (putC_one hC h) (dropA h)
set_option maxHeartbeats 6400000 in
set_option maxRecDepth 1000000 in
theorem readEvent_cons {s : Value} {x : List UInt8} {r : Ws} {cs : List Comp} {w w0 : World} (hE : ∀ W, All cs W → En W) (h0 : Rt w0 s (x :: r)) (hi : inC w0 ∈ cs) (hl : (x :: r).length * 16 ≤ 140737488355328) (hs : ∀ y ∈ x :: r, y.length ≤ 140737488355328) (A : All cs w) : Calls Tryz.prog 36 #[s] w (REPost (x :: r) cs) := by
  have hl1 : r.length * 16 ≤ 140737488355328 ∧ r.length < 140737488355327 := by simp only [List.length_cons] at hl; omega
  obtain ⟨ao, c, rfl⟩ := h0.form
  generalize hn1 : (x :: r).length = n1 at *
  clear hn1 hl
  have A1 := hid (A.addBlk (Ev.zero 0).cells 36)
  have A2 := hid (A1.out.addBlk [.slice ao n1 c] 124)
  have CN := hid (next_cons A2.out (h0.later (A2.out.into (List.mem_cons_of_mem _ (List.mem_cons_of_mem _ hi)))) hl1.2)
  have CK : Hid (∀ W, All cs W → Calls Tryz.prog 72 #[.string ⟨x.toArray⟩] W fun e w' => e = .returned (evA x) ∧ w' = W) := hid (fun W hW => evOf_any (hE W hW).k)
  have I36 : Hid ((Tryz.prog.info? 36).map (·.size) = some (Ev.zero 0).cells.toArray.size) := hid (by kernel_rfl)
  have O36 : Hid ((Ev.zero 0).cells.toArray.all (·.oneCell') = true) := hid (by kernel_rfl)
  have I124 : Hid ((Tryz.prog.info? 124).map (·.size) = some (#[.slice ao n1 c] : Array Value).size) := hid (by kernel_rfl)
  have O124 : Hid ((#[.slice ao n1 c] : Array Value).all (·.oneCell') = true) := hid (by simp [Value.oneCell'])
  have R0 := hid h0
  cases hk : evW x with
  | none =>
    have ER : reErr (x :: r) = 190 := by simp [reErr, hk]
    have EA : evA x = .tuple #[.int .i64 0, .bool false] := by unfold evA; rw [hk]; rfl
    rw [EA] at CK
    unfold REPost
    rw [ER]
    clear A hE h0 hi hl1 hs ER EA hk
    generalize ByteArray.mk x.toArray = X at *
    go_enter Tryz.func36, Tryz.ntmps36
    go_upto_region 1 with fail
    change Code.wp _ _ _ _ (w.alloc (.cells (Ev.zero 0).cells.toArray 36))
    generalize w.alloc (.cells (Ev.zero 0).cells.toArray 36) = w1 at *
    go_upto_region 2 with (refine wpList_store_row rfl 124 _ _ rfl w1.heap.size #[.slice ao n1 c] rfl rfl 124 _ (heap_alloc_new w1 _) I124.out rfl O124.out ?_; rw [World.setRow_alloc_new])
    generalize w1.alloc (.cells #[.slice ao n1 c] 124) = w2 at *
    go_wp2_with (first | (go_at_call 71; refine CN.out.mono ?_; rintro e w3 ⟨rfl, s3, R3, A3⟩; have K3 := hid A3; have HB := hid (A3.blk (g := w.heap.size) (vs := (Ev.zero 0).cells) (t := 36) (by simp)); have K4 : Hid (All (blkC w.heap.size (Ev.zero 0).cells 36 :: cs) (w3.setRow w.heap.size (Ev.zero 0).cells.toArray)) := hid (A3.swap.setRow (vs' := (Ev.zero 0).cells)).swap.tail; clear A3) | (go_at_call 72; refine (CK.out _ K3.out.tail.tail).mono ?_; rintro e w4 ⟨rfl, h4⟩; subst w4) | (refine wpList_store_row rfl 36 _ _ rfl w.heap.size (Ev.zero 0).cells.toArray rfl rfl 36 _ HB.out I36.out rfl O36.out ?_))
    exact ret_ev rfl rfl rfl K4.out.1.2.1 rfl rfl ⟨_, rfl, fun _ => ⟨rfl, K4.out.tail⟩, fun h => absurd h (by decide)⟩
  | some k =>
    have EA : evA x = .tuple #[.int .i64 (k : Int), .bool true] := by unfold evA; rw [hk]; rfl
    rw [EA] at CK
    have HLR : Hid (r.length * 16 ≤ 140737488355328 ∧ ∀ y ∈ r, y.length ≤ 140737488355328) := hid ⟨hl1.1, fun y hy => hs y (by simp [hy])⟩
    have CT : Hid (∀ P ds W, All (blkC P (Ev.zero k).cells 36 :: ds) W → Calls Tryz.prog 28 #[.pointer (some ⟨P, 0, none⟩)] W (ThPost P (kindT k) (blkC P (Ev.zero k).cells 36 :: ds))) := hid (fun P ds W hW => things_any hW (cell_in (P := P) (o := 0) hW (t := 36) (List.mem_cons_self) rfl))
    have CR : Hid (∀ (P R b : Nat) (s3 : Value) W, Rt w0 s3 r → All (blkC b ((kindT k).map (thV P)) 20 :: blkC P (Ev.zero k).cells 36 :: blkC R [s3] 124 :: blkC w.heap.size (Ev.zero 0).cells 36 :: cs) W → Calls Tryz.prog 73 #[.pointer (some ⟨R, 0, none⟩), .slice (some ⟨b, 0, none⟩) (kindT k).length (kindT k).length] W (TRs R P w0 (Ev.zero k).cells ((kindT k).flatMap sub) r (blkC w.heap.size (Ev.zero 0).cells 36 :: cs))) := hid (fun P R b s3 W hR hW => (rthings_any (b := b) (kindT_len _) (fun V hV => hE V hV.tail.tail) hR (List.mem_cons_of_mem _ (List.mem_cons_of_mem _ hi)) HLR.out.1 HLR.out.2 (fun t ht => by have := off_kind k t ht; simpa [Ev.len] using this) (List.mem_cons_self) (hW.perm (List.Perm.append_right (blkC w.heap.size (Ev.zero 0).cells 36 :: cs) (List.reverse_perm [blkC b ((kindT k).map (thV P)) 20, blkC P (Ev.zero k).cells 36, blkC R [s3] 124]).symm))).mono fun e w' h => h.drop)
    have B1 := hid (bu1 k)
    have IK : Hid ((Tryz.prog.info? 36).map (·.size) = some (Ev.zero k).cells.toArray.size) := hid (by kernel_rfl)
    have OK36 : Hid ((Ev.zero k).cells.toArray.all (·.oneCell') = true) := hid (by kernel_rfl)
    have ER : Hid (reErr (x :: r) = if (rdsL ((kindT k).flatMap sub) r).1 ≠ 0 then (rdsL ((kindT k).flatMap sub) r).1 else if (rdsL ((kindT k).flatMap sub) r).2.1 < r.length then 190 else 0) := hid (by simp only [reErr, hk])
    have RX : Hid (∀ W s', Rt W (.slice ao n1 c) (x :: r) → (∀ V, Rt V (.slice ao n1 c) (x :: r) → Rt V s' r) → Rt W s' r) := hid (fun W s' h1 h2 => h2 W h1)
    unfold REPost
    clear A hE h0 hi hl1 hs EA
    generalize ByteArray.mk x.toArray = X at *
    go_enter Tryz.func36, Tryz.ntmps36
    go_upto_region 1 with fail
    change Code.wp _ _ _ _ (w.alloc (.cells (Ev.zero 0).cells.toArray 36))
    generalize w.alloc (.cells (Ev.zero 0).cells.toArray 36) = w1 at *
    go_upto_region 2 with (refine wpList_store_row rfl 124 _ _ rfl w1.heap.size #[.slice ao n1 c] rfl rfl 124 _ (heap_alloc_new w1 _) I124.out rfl O124.out ?_; rw [World.setRow_alloc_new])
    generalize w1.alloc (.cells #[.slice ao n1 c] 124) = w2 at *
    go_upto_region 7 with (first | (go_at_call 71; refine CN.out.mono ?_; rintro e w3 ⟨rfl, s3, R3, A3⟩; have K3 := hid A3; have RR3 := hid (R3 _ R0.out); clear A3 R3) | (go_at_call 72; refine (CK.out _ K3.out.tail.tail).mono ?_; rintro e w4 ⟨rfl, h4⟩; subst w4) | (refine wpList_store_row rfl 36 _ _ rfl w3.heap.size (Ev.zero k).cells.toArray rfl rfl 36 _ (heap_alloc_new w3 _) IK.out rfl OK36.out ?_; rw [World.setRow_alloc_new]))
    have K5 := hid (K3.out.addBlk (Ev.zero k).cells 36)
    change Code.wp _ _ _ _ (w3.alloc (.cells (Ev.zero k).cells.toArray 36))
    have CT5 := hid (CT.out _ _ _ K5.out)
    generalize w3.alloc (.cells (Ev.zero k).cells.toArray 36) = w5 at *
    generalize w3.heap.size = PB at *
    generalize w1.heap.size = RB at *
    unfold ThPost at CT5
    have CR5 : Hid (∀ b W, All (blkC b ((kindT k).map (thV PB)) 20 :: blkC PB (Ev.zero k).cells 36 :: blkC RB [s3] 124 :: blkC w.heap.size (Ev.zero 0).cells 36 :: cs) W → Calls Tryz.prog 73 #[.pointer (some ⟨RB, 0, none⟩), .slice (some ⟨b, 0, none⟩) (kindT k).length (kindT k).length] W (fun e w' => ∃ i6 : Int, e = .returned (.int .i64 i6) ∧ i6 = (rdsL ((kindT k).flatMap sub) r).1 ∧ ∃ ao6 n6 c6 vs, n6 = r.length - (rdsL ((kindT k).flatMap sub) r).2.1 ∧ vs.length = (rdsL ((kindT k).flatMap sub) r).2.2.length ∧ All (blkC w.heap.size (Ev.zero 0).cells 36 :: blkC RB [.slice ao6 n6 c6] 124 :: blkC PB (putL (Ev.zero k).cells ((kindT k).flatMap sub) (rdsL ((kindT k).flatMap sub) r).2.2 vs) 36 :: (ownL (rdsL ((kindT k).flatMap sub) r).2.2 vs ++ cs)) w')) := hid (fun b W hW => (CR.out PB RB b s3 W RR3.out hW).mono fun e w' h => by
      obtain ⟨he, s6, vs, hR6, hL6, A6⟩ := h
      obtain ⟨ao6, c6, e6⟩ := hR6.form
      refine ⟨_, he, rfl, ao6, _, c6, vs, List.length_drop, hL6, ?_⟩
      rw [← e6]
      exact A6.perm (List.perm_middle (l₁ := blkC RB [s6] 124 :: blkC PB _ 36 :: ownL (rdsL ((kindT k).flatMap sub) r).2.2 vs)))
    have DRL : Hid (∀ (xs : List Comp) V, All (xs ++ cs) V → All cs V) := hid (fun xs => by
      induction xs with
      | nil => exact fun V h => h
      | cons y ys ih => exact fun V h => ih V h.tail)
    have PLN : Hid (∀ c v, (putL (Ev.zero k).cells ((kindT k).flatMap sub) c v).length = 33) := hid (fun c v => by rw [putL_len]; rfl)
    have SET : Hid (∀ W (ds : List Comp) (EC : List Value), All (blkC w.heap.size (Ev.zero 0).cells 36 :: ds) W → All (blkC w.heap.size EC 36 :: ds) (W.setRow w.heap.size EC.toArray)) := hid (fun W ds EC h => h.setRow (vs' := EC))
    have EVX : Hid (evW x = some k) := hid hk
    clear CT CR CN CK K3 RR3 RX B1 A1 A2 hk K5
    generalize hQ : rdsL ((kindT k).flatMap sub) r = q at *
    generalize (kindT k).map (thV PB) = LV at *
    generalize (kindT k).length = nk at *
    obtain ⟨q1, q2, q3⟩ := q
    simp only at CR5 ER
    have HQ := hid hQ
    clear hQ
    by_cases h1 : q1 = 0
    · by_cases h2 : q2 < r.length
      · have EE : Hid (reErr (x :: r) = 190) := hid (by rw [ER.out, if_neg (by simp [h1]), if_pos h2])
        have H2 := hid h2
        subst h1
        clear h2 ER HQ EVX
        go_upto_region 10 with (first | (go_at_call 28; refine CT5.out.mono ?_; rintro e w6 ⟨b6, rfl, A6⟩; have K6 := hid A6; clear A6) | (go_at_call 73; refine (CR5.out _ _ K6.out).mono ?_; rintro e w7 ⟨i7, rfl, hi7, ao7, n7, c7, vs, hn7, hvs, A7⟩; subst hi7; have K7 := hid A7; have HB := hid (A7.blk (g := w.heap.size) (vs := (Ev.zero 0).cells) (t := 36) (List.mem_cons_self)); have K8 := hid (SET.out _ _ (Ev.zero 0).cells A7); have HN7 := hid hn7; have hc7 := cell_in (P := RB) (o := 0) A7 (t := 124) (List.mem_cons_of_mem _ (List.mem_cons_self)) rfl; clear A7 hn7))
        have n0 : (0 : Int) < (n7 : Int) := by have := HN7.out; have := H2.out; omega
        go_wp2_with (refine wpList_store_row rfl 36 _ _ rfl w.heap.size (Ev.zero 0).cells.toArray rfl rfl 36 _ HB.out I36.out rfl O36.out ?_)
        exact ret_ev rfl rfl rfl K8.out.1.2.1 rfl rfl ⟨(Ev.zero 0).cells, by rw [EE.out]; rfl, fun _ => ⟨rfl, DRL.out _ _ K8.out.tail.tail.tail⟩, fun h => absurd h (by rw [EE.out]; decide)⟩
      · have EE : Hid (reErr (x :: r) = 0) := hid (by rw [ER.out, if_neg (by simp [h1]), if_neg h2])
        have H2 := hid h2
        subst h1
        clear h2 ER
        go_upto_region 10 with (first | (go_at_call 28; refine CT5.out.mono ?_; rintro e w6 ⟨b6, rfl, A6⟩; have K6 := hid A6; clear A6) | (go_at_call 73; refine (CR5.out _ _ K6.out).mono ?_; rintro e w7 ⟨i7, rfl, hi7, ao7, n7, c7, vs, hn7, hvs, A7⟩; subst hi7; have K7 := hid A7; have HB := hid (A7.blk (g := w.heap.size) (vs := (Ev.zero 0).cells) (t := 36) (List.mem_cons_self)); have K8 := hid (SET.out _ _ (Ev.zero 0).cells A7); have HN7 := hid hn7; have hc7 := cell_in (P := RB) (o := 0) A7 (t := 124) (List.mem_cons_of_mem _ (List.mem_cons_self)) rfl; have HVS := hid hvs; have HP7 := hid (A7.blk (g := PB) (t := 36) (List.mem_cons_of_mem _ (List.mem_cons_of_mem _ (List.mem_cons_self)))); have K9 := hid (SET.out _ _ (putL (Ev.zero k).cells ((kindT k).flatMap sub) q3 vs) A7); clear A7 hn7 hvs))
        have n0 : n7 = 0 := by have := HN7.out; have := H2.out; omega
        subst n0
        have LP := hid (PLN.out q3 vs)
        have IP : Hid ((Tryz.prog.info? 36).map (·.size) = some (putL (Ev.zero k).cells ((kindT k).flatMap sub) q3 vs).toArray.size) := hid (by rw [List.size_toArray, LP.out]; kernel_rfl)
        have OP : Hid ((putL (Ev.zero k).cells ((kindT k).flatMap sub) q3 vs).toArray.all (·.oneCell') = true) := hid (all_oneCell_toArray (putL_one (fun u hu => (Array.all_eq_true_iff_forall_mem.1 OK36.out) u (by simpa using hu)) K7.out.tail.tail.tail))
        have ZP : Hid ((Ev.zero 0).cells.toArray.size = (putL (Ev.zero k).cells ((kindT k).flatMap sub) q3 vs).toArray.size) := hid (by rw [List.size_toArray, List.size_toArray, LP.out]; rfl)
        have FINR : Hid (reErr (x :: r) = 0 → ∃ x' r' k' vs', x :: r = x' :: r' ∧ evW x' = some k' ∧ vs'.length = (rdsL ((kindT k').flatMap sub) r').2.2.length ∧ putL (Ev.zero k).cells ((kindT k).flatMap sub) q3 vs = putL (Ev.zero k').cells ((kindT k').flatMap sub) (rdsL ((kindT k').flatMap sub) r').2.2 vs' ∧ All (ownL (rdsL ((kindT k').flatMap sub) r').2.2 vs' ++ cs) (w7.setRow w.heap.size (putL (Ev.zero k).cells ((kindT k).flatMap sub) q3 vs).toArray)) := hid (fun _ => ⟨x, r, k, vs, rfl, EVX.out, by rw [HQ.out]; exact HVS.out, by rw [HQ.out], by rw [HQ.out]; exact K9.out.tail.tail.tail⟩)
        generalize putL (Ev.zero k).cells ((kindT k).flatMap sub) q3 vs = PC at *
        clear HQ EVX HVS
        go_wp2_with (first | (refine wpList_load_row rfl 36 _ rfl PB rfl 36 PC.toArray (0, 0) _ HP7.out Tryz.underlying36 rfl IP.out ?_) | (refine wpList_store_row rfl 36 _ _ rfl w.heap.size PC.toArray rfl rfl 36 _ HB.out IP.out ZP.out OP.out ?_))
        exact ret_ev rfl rfl rfl K9.out.1.2.1 LP.out rfl ⟨PC, by rw [EE.out]; rfl, fun h => absurd EE.out h, FINR.out⟩
    · have EE : Hid (reErr (x :: r) = q1) := hid (by rw [ER.out, if_pos h1])
      have h1' : (q1 == 0) = false := by simpa using h1
      have H1 := hid h1
      clear h1 ER HQ EVX
      go_wp2_with (first | (go_at_call 28; refine CT5.out.mono ?_; rintro e w6 ⟨b6, rfl, A6⟩; have K6 := hid A6; clear A6) | (go_at_call 73; refine (CR5.out _ _ K6.out).mono ?_; rintro e w7 ⟨i7, rfl, hi7, ao7, n7, c7, vs, hn7, hvs, A7⟩; subst hi7; have K7 := hid A7; have HB := hid (A7.blk (g := w.heap.size) (vs := (Ev.zero 0).cells) (t := 36) (List.mem_cons_self)); have K8 := hid (SET.out _ _ (Ev.zero 0).cells A7); clear A7 hn7 hvs) | (refine wpList_store_row rfl 36 _ _ rfl w.heap.size (Ev.zero 0).cells.toArray rfl rfl 36 _ HB.out I36.out rfl O36.out ?_))
      exact ret_ev rfl rfl rfl K8.out.1.2.1 rfl rfl ⟨(Ev.zero 0).cells, by rw [EE.out]; rfl, fun _ => ⟨rfl, DRL.out _ _ K8.out.tail.tail.tail⟩, fun h => absurd h (by rw [EE.out]; exact H1.out)⟩
/-- readEvent, of any words. -/
theorem readEvent_any {s : Value} {l : Ws} {cs : List Comp} {w w0 : World} (hE : ∀ W, All cs W → En W) (h0 : Rt w0 s l) (hi : inC w0 ∈ cs) (hl : l.length * 16 ≤ 140737488355328) (hs : ∀ y ∈ l, y.length ≤ 140737488355328) (A : All cs w) : Calls Tryz.prog 36 #[s] w (REPost l cs) := by
  cases l with
  | nil => exact readEvent_nil hE h0 A
  | cons x r => exact readEvent_cons hE h0 hi hl hs A
end Go.Proofs.YtfeppannfcbakaaGreatDoor
