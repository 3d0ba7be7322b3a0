import Derived.Test.YtfeppannfcbakaaGreatDoorEv11
import Derived.Test.YtfeppannfcbakaaGreatDoorEv12
import Derived.Deep.WholeRow
namespace Go.Proofs.YtfeppannfcbakaaGreatDoor
open Go.RowKit
set_option linter.unusedVariables false
set_option maxRecDepth 100000

/-- Things read one behind the other: the error, how many words, the contents. -/
def rdsL : List Th → Ws → Int × Nat × List Ct
  | [], _ => (0, 0, [])
  | t :: r, l => if (rd1 t l).1 ≠ 0 then ((rd1 t l).1, (rd1 t l).2.1, [(rd1 t l).2.2]) else ((rdsL r (l.drop (rd1 t l).2.1)).1, (rd1 t l).2.1 + (rdsL r (l.drop (rd1 t l).2.1)).2.1, (rd1 t l).2.2 :: (rdsL r (l.drop (rd1 t l).2.1)).2.2)
def putL : List Value → List Th → List Ct → List Value → List Value
  | C, t :: ts, c :: cs, v :: vs => putL (putC C t c v) ts cs vs
  | C, _, _, _ => C
def ownL : List Ct → List Value → List Comp
  | c :: cs, v :: vs => ownOf c v ++ ownL cs vs
  | _, _ => []
theorem putC_len (C : List Value) (t : Th) (x : Ct) (v : Value) : (putC C t x v).length = C.length := by
  unfold putC
  split <;> simp [setOp, setRes]
theorem putL_len (C : List Value) (ts : List Th) (cs : List Ct) (vs : List Value) : (putL C ts cs vs).length = C.length := by
  induction ts generalizing C cs vs with
  | nil => cases cs <;> cases vs <;> rfl
  | cons t r ih =>
    cases cs with
    | nil => cases vs <;> rfl
    | cons c cs =>
      cases vs with
      | nil => rfl
      | cons v vs => rw [putL, ih, putC_len]
theorem rdsL_len {a : List Th} {l : Ws} (h : (rdsL a l).1 = 0) : (rdsL a l).2.2.length = a.length := by
  induction a generalizing l with
  | nil => rfl
  | cons t r ih =>
    rw [rdsL] at h ⊢
    split
    · rename_i h1; rw [if_pos h1] at h; exact absurd h h1
    · rename_i h1; rw [if_neg h1] at h; simp only [List.length_cons]; rw [ih h]
theorem rdsL_le (a : List Th) (l : Ws) : (rdsL a l).2.2.length ≤ a.length := by
  induction a generalizing l with
  | nil => exact Nat.le_refl _
  | cons t r ih =>
    rw [rdsL]
    split
    · simp
    · simp only [List.length_cons]; have := ih (l.drop (rd1 t l).2.1); omega
theorem rdsL_app {a b : List Th} {l : Ws} (h : (rdsL a l).1 = 0) : rdsL (a ++ b) l = ((rdsL b (l.drop (rdsL a l).2.1)).1, (rdsL a l).2.1 + (rdsL b (l.drop (rdsL a l).2.1)).2.1, (rdsL a l).2.2 ++ (rdsL b (l.drop (rdsL a l).2.1)).2.2) := by
  induction a generalizing l with
  | nil => simp [rdsL]
  | cons t r ih =>
    rw [List.cons_append, rdsL, rdsL]
    rw [rdsL] at h
    split
    · rename_i h1; rw [if_pos h1] at h; exact absurd h h1
    · rename_i h1
      rw [if_neg h1] at h
      rw [ih h]
      simp only [List.drop_drop, List.cons_append, Nat.add_assoc]
theorem rdsL_stop {a b : List Th} {l : Ws} (h : (rdsL a l).1 ≠ 0) : rdsL (a ++ b) l = rdsL a l := by
  induction a generalizing l with
  | nil => exact absurd rfl h
  | cons t r ih =>
    rw [List.cons_append, rdsL, rdsL]
    rw [rdsL] at h
    split
    · rfl
    · rename_i h1
      rw [if_neg h1] at h
      rw [ih h]
theorem putL_app {C : List Value} {a b : List Th} {ca cb : List Ct} {va vb : List Value} (h1 : ca.length = a.length) (h2 : va.length = ca.length) : putL C (a ++ b) (ca ++ cb) (va ++ vb) = putL (putL C a ca va) b cb vb := by
  induction a generalizing C ca va with
  | nil =>
    have : ca = [] := List.eq_nil_of_length_eq_zero h1
    subst this
    have : va = [] := List.eq_nil_of_length_eq_zero h2
    subst this
    cases b <;> cases cb <;> cases vb <;> rfl
  | cons t r ih =>
    cases ca with
    | nil => simp at h1
    | cons c cs =>
      cases va with
      | nil => simp at h2
      | cons v vs =>
        simp only [List.cons_append, putL]
        exact ih (by simpa using h1) (by simpa using h2)
theorem putL_more {C : List Value} {a b : List Th} {c : List Ct} {v : List Value} (h : c.length ≤ a.length) : putL C (a ++ b) c v = putL C a c v := by
  induction a generalizing C c v with
  | nil =>
    have : c = [] := List.eq_nil_of_length_eq_zero (by simpa using h)
    subst this
    cases b <;> cases v <;> rfl
  | cons t r ih =>
    cases c with
    | nil => cases v <;> rfl
    | cons x cs =>
      cases v with
      | nil => rfl
      | cons v vs =>
        simp only [List.cons_append, putL]
        exact ih (by simpa using h)
theorem ownL_app {ca cb : List Ct} {va vb : List Value} (h : va.length = ca.length) : ownL (ca ++ cb) (va ++ vb) = ownL ca va ++ ownL cb vb := by
  induction ca generalizing va with
  | nil =>
    have : va = [] := List.eq_nil_of_length_eq_zero h
    subst this
    cases cb <;> cases vb <;> rfl
  | cons c cs ih =>
    cases va with
    | nil => simp at h
    | cons v vs => simp only [List.cons_append, ownL, List.append_assoc]; rw [ih (by simpa using h)]
/-- What reading things does. -/
def TRs (R P : Nat) (w0 : World) (C : List Value) (ts : List Th) (l : Ws) (cs : List Comp) (e : Ending) (w' : World) : Prop :=
  e = .returned (.int .i64 (rdsL ts l).1) ∧ ∃ s' vs, Rt w0 s' (l.drop (rdsL ts l).2.1) ∧ vs.length = (rdsL ts l).2.2.length ∧ All (blkC R [s'] 124 :: blkC P (putL C ts (rdsL ts l).2.2 vs) 36 :: (ownL (rdsL ts l).2.2 vs ++ cs)) w'
theorem TRs.of_one {R P : Nat} {w0 : World} {C : List Value} {t : Th} {l : Ws} {cs : List Comp} {e : Ending} {w' : World} (h : TRPost R P w0 C t l cs e w') : TRs R P w0 C [t] l cs e w' := by
  obtain ⟨he, s', v, hR, hA⟩ := h
  by_cases h0 : (rd1 t l).1 ≠ 0
  · have e1 : rdsL [t] l = ((rd1 t l).1, (rd1 t l).2.1, [(rd1 t l).2.2]) := by rw [rdsL, if_pos h0]
    refine ⟨by rw [e1]; exact he, s', [v], by rw [e1]; exact hR, by rw [e1]; rfl, ?_⟩
    rw [e1]
    simp only [putL, ownL, List.append_nil]
    exact hA
  · have e1 : rdsL [t] l = (0, (rd1 t l).2.1, [(rd1 t l).2.2]) := by rw [rdsL, if_neg h0]; simp [rdsL]
    have h00 : (rd1 t l).1 = 0 := by simpa using h0
    refine ⟨by rw [e1]; rw [h00] at he; exact he, s', [v], by rw [e1]; exact hR, by rw [e1]; rfl, ?_⟩
    rw [e1]
    simp only [putL, ownL, List.append_nil]
    exact hA
theorem thing_flatL {R P : Nat} {t : Th} {s : Value} {l : Ws} {C : List Value} {cs : List Comp} {w w0 : World} (hf : flatT t = true) (hE : ∀ W, All cs W → En W) (h0 : Rt w0 s l) (hi : inC w0 ∈ cs) (hl : l.length * 16 ≤ 140737488355328) (hs : ∀ x ∈ l, x.length ≤ 140737488355328) (ho : offT t < C.length) (A : All (blkC R [s] 124 :: blkC P C 36 :: cs) w) :
    Calls Tryz.prog 106 #[.pointer (some ⟨R, 0, none⟩), thV P t] w (TRs R P w0 C (sub t) l cs) := by
  have e : sub t = [t] := by cases t <;> simp_all [flatT, sub]
  rw [e]
  exact (thing_flat hf hE h0 hi hl hs ho A).mono fun _ _ h => TRs.of_one h
set_option maxHeartbeats 3200000 in
set_option maxRecDepth 1000000 in
theorem things_gen {R P b : Nat} {ts : List Th} {s : Value} {l : Ws} {C : List Value} {cs : List Comp} {w w0 : World} (hn : ts.length ≤ 100) (h0 : Rt w0 s l) (hb : blkC b (ts.map (thV P)) 20 ∈ cs)
    (HT : ∀ t ∈ ts, ∀ (C' : List Value) (k : Nat) (s' : Value) (ds : List Comp) (W : World), C'.length = C.length → Rt w0 s' (l.drop k) → (∀ V, All ds V → All cs V) → (∀ c ∈ cs, c ∈ ds) → All (blkC R [s'] 124 :: blkC P C' 36 :: ds) W → Calls Tryz.prog 106 #[.pointer (some ⟨R, 0, none⟩), thV P t] W (TRs R P w0 C' (sub t) (l.drop k) ds))
    (A : All (blkC R [s] 124 :: blkC P C 36 :: cs) w) :
    Calls Tryz.prog 73 #[.pointer (some ⟨R, 0, none⟩), .slice (some ⟨b, 0, none⟩) ts.length ts.length] w (TRs R P w0 C (ts.flatMap sub) l cs) := by
  have EL : Hid (∀ j, j < ts.length → ∃ t, ts[j]? = some t ∧ (ts.map (thV P))[j]? = some (thV P t) ∧ t ∈ ts) := hid (fun j hj => ⟨ts[j], List.getElem?_eq_getElem hj, by simp [List.getElem?_eq_getElem hj], List.getElem_mem hj⟩)
  have S0 : Hid (∃ s' vs, Rt w0 s' (l.drop (rdsL ((ts.take 0).flatMap sub) l).2.1) ∧ vs.length = (rdsL ((ts.take 0).flatMap sub) l).2.2.length ∧ All (blkC R [s'] 124 :: blkC P (putL C ((ts.take 0).flatMap sub) (rdsL ((ts.take 0).flatMap sub) l).2.2 vs) 36 :: (ownL (rdsL ((ts.take 0).flatMap sub) l).2.2 vs ++ cs)) w) := hid ⟨s, [], h0, rfl, A⟩
  have E0 : Hid ((rdsL ((ts.take 0).flatMap sub) l).1 = 0) := hid rfl
  have FIN : Hid (ts.take ts.length = ts) := hid (List.take_length ..)
  have HTT := hid HT
  have HBB := hid hb
  unfold TRs
  clear A hb HT h0
  generalize hLV : ts.map (thV P) = LV at *
  clear hLV
  generalize hnn : ts.length = n at *
  clear hnn
  go_enter Tryz.func73, Tryz.ntmps73
  go_wp2
  go_loopw [10] (fun iv wr => ∃ j : Nat, j ≤ n ∧ iv = .int .i64 (j : Int) ∧ Hid ((rdsL ((ts.take j).flatMap sub) l).1 = 0) ∧ Hid (∃ s' vs, Rt w0 s' (l.drop (rdsL ((ts.take j).flatMap sub) l).2.1) ∧ vs.length = (rdsL ((ts.take j).flatMap sub) l).2.2.length ∧ All (blkC R [s'] 124 :: blkC P (putL C ((ts.take j).flatMap sub) (rdsL ((ts.take j).flatMap sub) l).2.2 vs) 36 :: (ownL (rdsL ((ts.take j).flatMap sub) l).2.2 vs ++ cs)) wr)) (fun iv _ => n - (intOf iv).toNat)
  case atStart => exact ⟨0, Nat.zero_le _, rfl, E0, S0⟩
  case round =>
    obtain ⟨j, hj, rfl, hZ, hS⟩ := hrel
    clear S0 E0
    by_cases hlt : j < n
    · have hlt' : (j : Int) < (n : Int) := by omega
      obtain ⟨t, ht, hv, hm⟩ := EL.out j hlt
      obtain ⟨s1, vs1, hR1, hL1, A1⟩ := hS.out
      have hcb : wr.cell? ⟨b, j, none⟩ = some (thV P t) := cell_in A1 (t := 20) (List.mem_cons_of_mem _ (List.mem_cons_of_mem _ (List.mem_append_right _ HBB.out))) hv
      have hdrop : ∀ (xs : List Comp) V, All (xs ++ cs) V → All cs V := fun xs => by
        induction xs with
        | nil => exact fun V h => h
        | cons x r ih => exact fun V h => ih V h.tail
      have CT := hid (HTT.out t hm _ _ s1 _ wr (putL_len _ _ _ _) hR1 (hdrop _) (fun c hc => List.mem_append_right _ hc) A1)
      have ET : ts.take (j + 1) = ts.take j ++ [t] := take_at ht
      have SPL : ts.flatMap sub = (ts.take j).flatMap sub ++ sub t ++ (ts.drop (j + 1)).flatMap sub := by
        have : ts = ts.take j ++ [t] ++ ts.drop (j + 1) := by rw [← ET, List.take_append_drop]
        conv => lhs; rw [this]
        simp
      have EP : (ts.take (j + 1)).flatMap sub = (ts.take j).flatMap sub ++ sub t := by rw [ET]; simp
      have LN := rdsL_len hZ.out
      have RA := rdsL_app (b := sub t) hZ.out
      -- what the step leaves, of the longer list
      have STEP : Hid (∀ e w', TRs R P w0 (putL C ((ts.take j).flatMap sub) (rdsL ((ts.take j).flatMap sub) l).2.2 vs1) (sub t) (l.drop (rdsL ((ts.take j).flatMap sub) l).2.1) (ownL (rdsL ((ts.take j).flatMap sub) l).2.2 vs1 ++ cs) e w' → TRs R P w0 C ((ts.take j).flatMap sub ++ sub t) l cs e w') := hid (fun e w' h => by
        obtain ⟨he, s2, vs2, hR2, hL2, A2⟩ := h
        refine ⟨by rw [RA]; exact he, s2, vs1 ++ vs2, by rw [RA]; simp only [← List.drop_drop]; exact hR2, by rw [RA]; simp [hL1, hL2], ?_⟩
        rw [RA]
        simp only
        rw [putL_app LN hL1, ownL_app hL1]
        refine A2.perm (List.Perm.cons _ (List.Perm.cons _ ?_))
        rw [← List.append_assoc]
        exact List.Perm.append_right cs List.perm_append_comm)
      have CT2 := hid (CT.out.mono STEP.out)
      clear CT STEP A1 hR1 hL1 hS hv hm ht ET LN RA hdrop
      unfold TRs at CT2
      by_cases hx : (rdsL ((ts.take j).flatMap sub ++ sub t) l).1 = 0
      · rw [hx] at CT2
        have NX : Hid ((rdsL ((ts.take (j + 1)).flatMap sub) l).1 = 0) := hid (by rw [EP]; exact hx)
        rw [← EP] at CT2
        clear hx EP SPL hZ
        generalize thV P t = TV at *
        go_wp2_with (go_at_call 106; refine CT2.out.mono ?_; rintro e w2 ⟨rfl, K2⟩; have KK := hid K2; clear K2)
        go_roundw
        case rel => exact ⟨j + 1, by omega, by go_num, NX, KK⟩
        case measure => simp [intOf]; omega
      · have EX : Hid (rdsL (ts.flatMap sub) l = rdsL ((ts.take j).flatMap sub ++ sub t) l) := hid (by rw [SPL]; exact rdsL_stop hx)
        have PX : Hid (∀ c v, c.length ≤ ((ts.take j).flatMap sub ++ sub t).length → putL C (ts.flatMap sub) c v = putL C ((ts.take j).flatMap sub ++ sub t) c v) := hid (fun c v h => by rw [SPL]; exact putL_more h)
        have LX := hid (rdsL_le ((ts.take j).flatMap sub ++ sub t) l)
        have hx' : ((rdsL ((ts.take j).flatMap sub ++ sub t) l).1 == 0) = false := by simpa using hx
        clear hx EP SPL hZ
        generalize thV P t = TV at *
        generalize (ts.take j).flatMap sub ++ sub t = PT at *
        obtain ⟨rr, hrr⟩ : ∃ rr, Hid (rr = rdsL PT l) := ⟨_, hid rfl⟩
        rw [← hrr.out] at CT2 hx' EX LX
        clear hrr
        go_wp2_with (go_at_call 106; refine CT2.out.mono ?_; rintro e w2 ⟨rfl, K2⟩; have KK := hid K2; clear K2)
        go_ret
        refine ⟨by rw [EX.out]; rfl, ?_⟩
        obtain ⟨s2, vs2, hR2, hL2, A2⟩ := KK.out
        refine ⟨s2, vs2, by rw [EX.out]; exact hR2, by rw [EX.out]; exact hL2, ?_⟩
        rw [EX.out, PX.out _ _ LX.out]
        exact A2
    · have hlt' : ¬ (j : Int) < (n : Int) := by omega
      have ej : j = n := by omega
      rw [ej, FIN.out] at hZ hS
      clear ej
      go_wp2
      go_ret
      obtain ⟨s2, vs2, q1, q2, q3⟩ := hS.out
      first | exact ⟨by rw [hZ.out]; rfl, s2, q1, vs2, q2, q3⟩ | exact ⟨by rw [hZ.out]; rfl, s2, vs2, q1, q2, q3⟩
end Go.Proofs.YtfeppannfcbakaaGreatDoor

namespace Go.Proofs.YtfeppannfcbakaaGreatDoor
open Go.RowKit
set_option linter.unusedVariables false
set_option maxRecDepth 100000

theorem flatMap_flat {l : List Th} (h : ∀ t ∈ l, flatT t = true) : l.flatMap sub = l := by
  induction l with
  | nil => rfl
  | cons t r ih =>
    have e : sub t = [t] := by have := h t (by simp); cases t <;> simp_all [flatT, sub]
    rw [List.flatMap_cons, e, ih (fun x hx => h x (by simp [hx]))]
    rfl
theorem off_look {o : Nat} {C : List Value} (h : offT (.look o) < C.length) : ∀ t ∈ lookL o, offT t < C.length := by
  simp only [offT] at h
  simp [lookL, offT]
  omega
theorem off_sht {o : Nat} {C : List Value} (h : offT (.sht o) < C.length) : ∀ t ∈ shtL o, offT t < C.length := by
  simp only [offT] at h
  simp [shtL, offT]
  omega
theorem TRs.drop {R P : Nat} {w0 : World} {C : List Value} {ts : List Th} {l : Ws} {c : Comp} {cs : List Comp} {e : Ending} {w' : World} (h : TRs R P w0 C ts l (c :: cs) e w') : TRs R P w0 C ts l cs e w' := by
  obtain ⟨he, s', vs, hR, hL, hA⟩ := h
  refine ⟨he, s', vs, hR, hL, ?_⟩
  have := hA.perm ((List.Perm.cons _ (List.Perm.cons _ (List.perm_middle (l₁ := ownL (rdsL ts l).2.2 vs)))).trans (((List.Perm.swap _ _ _).cons _).trans (List.Perm.swap _ _ _)))
  exact this.tail
set_option maxHeartbeats 3200000 in
set_option maxRecDepth 1000000 in
theorem thing_any {R P : Nat} {t : Th} {s : Value} {l : Ws} {C : List Value} {cs : List Comp} {w w0 : World} (hE : ∀ W, All cs W → En W) (h0 : Rt w0 s l) (hi : inC w0 ∈ cs) (hl : l.length * 16 ≤ 140737488355328) (hs : ∀ x ∈ l, x.length ≤ 140737488355328) (ho : offT t < C.length) (A : All (blkC R [s] 124 :: blkC P C 36 :: cs) w) :
    Calls Tryz.prog 106 #[.pointer (some ⟨R, 0, none⟩), thV P t] w (TRs R P w0 C (sub t) l cs) := by
  cases t with
  | look o =>
    have LK := hid (lookT (P := P) (o := o) A)
    have FLT : (lookL o).flatMap sub = lookL o := flatMap_flat (flat_look o)
    have CT : Hid (∀ b2 W, All (blkC b2 ((lookL o).map (thV P)) 20 :: blkC R [s] 124 :: blkC P C 36 :: cs) W → Calls Tryz.prog 73 #[.pointer (some ⟨R, 0, none⟩), .slice (some ⟨b2, 0, none⟩) (lookL o).length (lookL o).length] W (TRs R P w0 C (lookL o) l cs)) := hid (fun b2 W hW => by
      have hc := things_gen (R := R) (P := P) (b := b2) (ts := lookL o) (s := s) (l := l) (C := C) (cs := blkC b2 ((lookL o).map (thV P)) 20 :: cs) (w0 := w0) (by simp [lookL]) h0 (List.mem_cons_self) (fun t ht C' q s' ds V hC hR hd hm hA => thing_flatL (flat_look o t ht) (fun V hV => hE V (hd V hV).tail) hR (hm _ (List.mem_cons_of_mem _ hi)) (by have := List.length_drop (l := l) (i := q); omega) (fun x hx => hs x (List.mem_of_mem_drop hx)) (by rw [hC]; exact off_look ho t ht) hA) (hW.perm ((List.Perm.swap _ _ _).trans ((List.Perm.swap _ _ _).cons _)))
      rw [FLT] at hc
      exact hc.mono fun e w' h => h.drop)
    rw [show sub (.look o) = lookL o from rfl]
    clear A hE h0 hi hl hs ho FLT
    simp only [thV]
    have ta0 : ∀ W : World, (Instr.typeAssert (.iface 102 (.pointer (some ⟨P, o, none⟩))) 20 99 true).run Tryz.prog W = .ok (.tuple #[.pointer none, .bool false]) W := fun W => by kernel_rfl
    have ta1 : ∀ W : World, (Instr.typeAssert (.iface 102 (.pointer (some ⟨P, o, none⟩))) 20 100 true).run Tryz.prog W = .ok (.tuple #[.pointer none, .bool false]) W := fun W => by kernel_rfl
    have ta2 : ∀ W : World, (Instr.typeAssert (.iface 102 (.pointer (some ⟨P, o, none⟩))) 20 102 true).run Tryz.prog W = .ok (.tuple #[.pointer (some ⟨P, o, none⟩), .bool true]) W := fun W => by kernel_rfl
    go_enter Tryz.func106, Tryz.ntmps106
    go_wp2_with (first | (go_at_call 84; refine LK.out.mono ?_; rintro e w2 ⟨b2, rfl, A2⟩; have K1 := hid A2; clear A2) | (go_at_call 73; refine (CT.out _ _ K1.out).mono ?_; intro e w3 h3; have H3 := hid h3; obtain ⟨i3, hi3⟩ : ∃ i3 : Int, e = .returned (.int .i64 i3) := ⟨_, h3.1⟩; subst hi3; clear h3))
    go_ret
    exact H3.out
  | sht o =>
    have LK := hid (sheetT (P := P) (o := o) A)
    have FLT : (shtL o).flatMap sub = shtL o := flatMap_flat (flat_sht o)
    have CT : Hid (∀ b2 W, All (blkC b2 ((shtL o).map (thV P)) 20 :: blkC R [s] 124 :: blkC P C 36 :: cs) W → Calls Tryz.prog 73 #[.pointer (some ⟨R, 0, none⟩), .slice (some ⟨b2, 0, none⟩) (shtL o).length (shtL o).length] W (TRs R P w0 C (shtL o) l cs)) := hid (fun b2 W hW => by
      have hc := things_gen (R := R) (P := P) (b := b2) (ts := shtL o) (s := s) (l := l) (C := C) (cs := blkC b2 ((shtL o).map (thV P)) 20 :: cs) (w0 := w0) (by simp [shtL]) h0 (List.mem_cons_self) (fun t ht C' q s' ds V hC hR hd hm hA => thing_flatL (flat_sht o t ht) (fun V hV => hE V (hd V hV).tail) hR (hm _ (List.mem_cons_of_mem _ hi)) (by have := List.length_drop (l := l) (i := q); omega) (fun x hx => hs x (List.mem_of_mem_drop hx)) (by rw [hC]; exact off_sht ho t ht) hA) (hW.perm ((List.Perm.swap _ _ _).trans ((List.Perm.swap _ _ _).cons _)))
      rw [FLT] at hc
      exact hc.mono fun e w' h => h.drop)
    rw [show sub (.sht o) = shtL o from rfl]
    clear A hE h0 hi hl hs ho FLT
    simp only [thV]
    have ta0 : ∀ W : World, (Instr.typeAssert (.iface 103 (.pointer (some ⟨P, o, none⟩))) 20 99 true).run Tryz.prog W = .ok (.tuple #[.pointer none, .bool false]) W := fun W => by kernel_rfl
    have ta1 : ∀ W : World, (Instr.typeAssert (.iface 103 (.pointer (some ⟨P, o, none⟩))) 20 100 true).run Tryz.prog W = .ok (.tuple #[.pointer none, .bool false]) W := fun W => by kernel_rfl
    have ta2 : ∀ W : World, (Instr.typeAssert (.iface 103 (.pointer (some ⟨P, o, none⟩))) 20 102 true).run Tryz.prog W = .ok (.tuple #[.pointer none, .bool false]) W := fun W => by kernel_rfl
    have ta3 : ∀ W : World, (Instr.typeAssert (.iface 103 (.pointer (some ⟨P, o, none⟩))) 20 103 true).run Tryz.prog W = .ok (.tuple #[.pointer (some ⟨P, o, none⟩), .bool true]) W := fun W => by kernel_rfl
    go_enter Tryz.func106, Tryz.ntmps106
    go_wp2_with (first | (go_at_call 85; refine LK.out.mono ?_; rintro e w2 ⟨b2, rfl, A2⟩; have K1 := hid A2; clear A2) | (go_at_call 73; refine (CT.out _ _ K1.out).mono ?_; intro e w3 h3; have H3 := hid h3; obtain ⟨i3, hi3⟩ : ∃ i3 : Int, e = .returned (.int .i64 i3) := ⟨_, h3.1⟩; subst hi3; clear h3))
    go_ret
    exact H3.out
  | int o => exact thing_flatL rfl hE h0 hi hl hs ho A
  | cod o => exact thing_flatL rfl hE h0 hi hl hs ho A
  | fre o => exact thing_flatL rfl hE h0 hi hl hs ho A
  | sta o => exact thing_flatL rfl hE h0 hi hl hs ho A
  | dat o => exact thing_flatL rfl hE h0 hi hl hs ho A
  | op o => exact thing_flatL rfl hE h0 hi hl hs ho A
  | res o => exact thing_flatL rfl hE h0 hi hl hs ho A
/-- Things that are read, of any list of them. -/
theorem rthings_any {R P b : Nat} {ts : List Th} {s : Value} {l : Ws} {C : List Value} {cs : List Comp} {w w0 : World} (hn : ts.length ≤ 100) (hE : ∀ W, All cs W → En W) (h0 : Rt w0 s l) (hi : inC w0 ∈ cs) (hl : l.length * 16 ≤ 140737488355328) (hs : ∀ x ∈ l, x.length ≤ 140737488355328) (ho : ∀ t ∈ ts, offT t < C.length) (hb : blkC b (ts.map (thV P)) 20 ∈ cs) (A : All (blkC R [s] 124 :: blkC P C 36 :: cs) w) :
    Calls Tryz.prog 73 #[.pointer (some ⟨R, 0, none⟩), .slice (some ⟨b, 0, none⟩) ts.length ts.length] w (TRs R P w0 C (ts.flatMap sub) l cs) :=
  things_gen hn h0 hb (fun t ht C' q s' ds V hC hR hd hm hA => thing_any (fun V hV => hE V (hd V hV)) hR (hm _ hi) (by have := List.length_drop (l := l) (i := q); omega) (fun x hx => hs x (List.mem_of_mem_drop hx)) (by rw [hC]; exact ho t ht) hA) A
end Go.Proofs.YtfeppannfcbakaaGreatDoor

namespace Go.Proofs.YtfeppannfcbakaaGreatDoor
open Go.RowKit
set_option linter.unusedVariables false
set_option maxRecDepth 100000

/-- An event of a kind with nothing else. -/
def Ev.zero (k : Int) : Ev := { k := k, fr := false, onm := [], otx := [], pnm := [], ptx := [], ria := none, rik := 0, ric := 0, dia := none, dik := 0, dic := 0, a := 0, nb := 0, nm := 0, wh := 0, cd := 0, on := 0, om := 0, ec := 0, en := 0, pn := 0, pm := 0, rc := 0, rn := 0, sn := 0, sa := 0, ok := 0, pk := 0, l0 := 0, l1 := 0, l2 := 0, l3 := 0, l4 := 0, l5 := 0, l6 := 0, l7 := 0 }
theorem ret_ev {fn : Func} (hf : fn.results = #[.cell 2 36, .tmp 3]) {R : Ending → World → Prop} {a : Act} {w : World} {b : Nat} {EC : List Value} {e : Value} (ht : a.tmps.getD 2 undef = ptr b) (h3 : a.tmps.getD 3 undef = e) (hg : w.heap[b]? = some (.cells EC.toArray 36 (0, 0))) (hs : EC.length = 33) (hd : a.defers = []) (hR : R (.returned (.tuple #[.agg EC.toArray, e])) w) : bodyPost Tryz.prog fn R .ret a w := by
  refine bodyPost_ret (v := .tuple #[.agg EC.toArray, e]) ?_ hd hR
  have hp : a.tmps[2]?.getD undef = ptr b := by rw [← ht]; simp
  have hp3 : a.tmps[3]?.getD undef = e := by rw [← h3]; simp
  simp [results, hf, hp, hp3, asAddr, run_loadVar_row w b 36 36 EC.toArray (0, 0) _ hg Tryz.underlying36 rfl (by rw [List.size_toArray, hs]; kernel_rfl)]
theorem bu0 : Tryz.prog.built 36 [] = some (Ev.zero 0).cells.toArray := by kernel_rfl
theorem bu1 (k : Int) : Tryz.prog.built 36 [(0, .int .i64 k)] = some (Ev.zero k).cells.toArray := by kernel_rfl
theorem All.setRow {g : Nat} {vs vs' : List Value} {t : TypeId} {cs : List Comp} {w : World} (h : All (blkC g vs t :: cs) w) : All (blkC g vs' t :: cs) (w.setRow g vs'.toArray) := by
  have hg : w.heap[g]? = some (.cells vs.toArray t (0, 0)) := h.1.2.1
  refine h.turn ⟨rfl, rfl, rfl, by simp [World.setRow], fun k hk hn => ?_⟩ (blkC_good _ _ _) (setRow_heap w g _ _ t (0, 0) hg) (fun k hk => Or.inl hk) (fun k hk => ?_)
  · exact setRow_other w g k _ (by simpa [blkC] using hn)
  · have : k = g := by simpa [blkC] using hk
    subst this
    simpa [World.setRow] using h.1.2.2 k (by simp [blkC])
/-- What the words of an event tell: the error. -/
def reErr (l : Ws) : Int := match l with
  | [] => 190
  | x :: r => match evW x with
    | none => 190
    | some k => if (rdsL ((kindT k).flatMap sub) r).1 ≠ 0 then (rdsL ((kindT k).flatMap sub) r).1 else if (rdsL ((kindT k).flatMap sub) r).2.1 < r.length then 190 else 0
def REPost (l : Ws) (cs : List Comp) (e : Ending) (w' : World) : Prop :=
  ∃ EC : List Value, e = .returned (.tuple #[.agg EC.toArray, .int .i64 (reErr l)]) ∧ (reErr l ≠ 0 → EC = (Ev.zero 0).cells ∧ All cs w') ∧ (reErr l = 0 → ∃ x r k vs, l = x :: r ∧ evW x = some k ∧ vs.length = (rdsL ((kindT k).flatMap sub) r).2.2.length ∧ EC = putL (Ev.zero k).cells ((kindT k).flatMap sub) (rdsL ((kindT k).flatMap sub) r).2.2 vs ∧ All (ownL (rdsL ((kindT k).flatMap sub) r).2.2 vs ++ cs) w')
set_option maxHeartbeats 6400000 in
set_option maxRecDepth 1000000 in
theorem readEvent_nil {s : Value} {cs : List Comp} {w w0 : World} (hE : ∀ W, All cs W → En W) (h0 : Rt w0 s []) (A : All cs w) : Calls Tryz.prog 36 #[s] w (REPost [] cs) := by
  obtain ⟨ao, c, rfl⟩ := h0.form
  have A1 := hid (A.addBlk (Ev.zero 0).cells 36)
  have A2 := hid (A1.out.addBlk [.slice ao 0 c] 124)
  have CN := hid (next_nil A2.out)
  have CK : Hid (∀ W, All cs W → Calls Tryz.prog 72 #[.string ⟨#[]⟩] W fun e w' => e = .returned (.tuple #[.int .i64 0, .bool false]) ∧ w' = W) := hid (fun W hW => evOf_any (x := []) (hE W hW).k)
  have B0 := hid bu0
  have EZ : Hid ((Ev.zero 0).cells.length = 33) := hid rfl
  have I36 : Hid ((Tryz.prog.info? 36).map (·.size) = some (Ev.zero 0).cells.toArray.size) := hid (by kernel_rfl)
  have O36 : Hid ((Ev.zero 0).cells.toArray.all (·.oneCell') = true) := hid (by kernel_rfl)
  unfold REPost
  clear h0 A
  go_enter Tryz.func36, Tryz.ntmps36
  go_upto_region 1 with fail
  change Code.wp _ _ _ _ (w.alloc (.cells (Ev.zero 0).cells.toArray 36))
  generalize w.alloc (.cells (Ev.zero 0).cells.toArray 36) = w1 at *
  have K4 : Hid (All (blkC w.heap.size (Ev.zero 0).cells 36 :: cs) ((w1.alloc (.cells #[.slice ao 0 c] 124)).setRow w.heap.size (Ev.zero 0).cells.toArray)) := hid (A2.out.swap.setRow (vs' := (Ev.zero 0).cells)).swap.tail
  have HB := hid (A2.out.blk (g := w.heap.size) (vs := (Ev.zero 0).cells) (t := 36) (by simp))
  have I124 : Hid ((Tryz.prog.info? 124).map (·.size) = some (#[Value.slice ao 0 c] : Array Value).size) := hid (by kernel_rfl)
  go_upto_region 2 with (refine wpList_store_row rfl 124 _ _ rfl w1.heap.size #[.slice ao 0 c] rfl rfl 124 _ (heap_alloc_new w1 _) I124.out rfl rfl ?_; rw [World.setRow_alloc_new])
  generalize w1.alloc (.cells #[.slice ao 0 c] 124) = w2 at *
  go_wp2_with (first | (go_at_call 71; refine CN.out.mono ?_; rintro e w3 ⟨rfl, h3⟩; subst w3) | (go_at_call 72; refine (CK.out _ A2.out.tail.tail).mono ?_; rintro e w4 ⟨rfl, h4⟩; subst w4) | (refine wpList_store_row rfl 36 _ _ rfl w.heap.size (Ev.zero 0).cells.toArray rfl rfl 36 _ HB.out I36.out rfl O36.out ?_))
  exact ret_ev rfl rfl rfl K4.out.1.2.1 rfl rfl ⟨_, rfl, fun _ => ⟨rfl, K4.out.tail⟩, fun h => absurd h (by decide)⟩
end Go.Proofs.YtfeppannfcbakaaGreatDoor
