import Derived.Test.YtdhkdniddjnigaaGreatDoorGd
namespace Go.Proofs.YtdhkdniddjnigaaGreatDoor
open Go.RowKit
set_option linter.unusedVariables false

/-- What was read, as it is answered. -/
def rdG (P : Nat) : Rd → Value
  | .err e => .tuple #[.nilFunc, .int .i64 e]
  | .none => .tuple #[.nilFunc, .int .i64 0]
  | .wish a who o => .tuple #[(Wi.mk 0 a who o).fn P, .int .i64 0]

set_option maxHeartbeats 1600000 in
set_option maxRecDepth 1000000 in
theorem readRequest_any {P : Nat} {v : Value} {l : Ws} {cs : List Comp} {w : World} (A : All cs w) (hR : ∀ W, All cs W → Rt W v l) (hV : ∀ W, All cs W → Vars W) (hT : ∀ W, All cs W → Tab W) (hW : ∀ W, All cs W → Wf W) (hl : l.length ≤ 140737488355328) (hs : ∀ x ∈ l, x.length ≤ 140737488355328) :
    Calls Tryz.prog 122 #[.pointer (some ⟨P, 0, none⟩), v] w fun e w' => e = .returned (rdG P (reqR l)) ∧ All cs w' := by
  obtain ⟨ao, c, rfl⟩ := (hR w A).form
  have RO := hid (readOp_any A hR hV hT hW hl hs)
  unfold reqR
  clear A hR hV hT hW hs hl
  generalize opRd l = r at *
  obtain ⟨er, ⟨k, nm, tx, n, m⟩⟩ := r
  simp only [OpR.val] at RO ⊢
  by_cases he : er ≠ 0
  · rw [if_pos he]
    generalize ByteArray.mk nm.toArray = NM at *
    generalize ByteArray.mk tx.toArray = TX at *
    have he' : (er != 0) = true := by simpa using he
    clear he
    unfold rdG
    generalize l.length = nl at *
    go_enter Tryz.func122, Tryz.ntmps122
    go_wp2_with (go_at_call 162; refine RO.out.mono ?_; rintro e w2 ⟨rfl, A2⟩; have A3 := hid (A2.alloc (.cells #[.int .i64 k, .string NM, .string TX, .int .i64 (n : Int), .int .i64 (m : Int)] 42)); clear A2)
    go_ret2
    exact ⟨rfl, A3.out⟩
  · have he0 : er = 0 := Classical.byContradiction he
    subst he0
    rw [if_neg he]
    clear he
    unfold rdG Wi.fn
    dsimp only
    rw [if_neg (by decide)]
    generalize ByteArray.mk nm.toArray = NM at *
    generalize ByteArray.mk tx.toArray = TX at *
    generalize l.length = nl at *
    go_enter Tryz.func122, Tryz.ntmps122
    go_wp2_with (go_at_call 162; refine RO.out.mono ?_; rintro e w2 ⟨rfl, A2⟩; have A3 := hid (A2.alloc (.cells #[.int .i64 k, .string NM, .string TX, .int .i64 (n : Int), .int .i64 (m : Int)] 42)); clear A2)
    go_ret2
    exact ⟨rfl, A3.out⟩
theorem Rt.tl {w : World} {ao : Option Addr} {n c : Nat} {x : List UInt8} {l : Ws} (h : Rt w (.slice ao n c) (x :: l)) : Rt w (.slice (if c = 1 then ao else ao.map (fun a => a.add 1)) (n - 1) (c - 1)) l := by
  obtain ⟨ao', c', e, hc, hx⟩ := h
  simp only [Value.slice.injEq] at e
  obtain ⟨rfl, rfl, rfl⟩ := e
  simp only [List.length_cons] at hc ⊢
  refine ⟨_, c - 1, rfl, by omega, ?_⟩
  rcases hx with h0 | ⟨g, o, rfl, hg, hcell⟩
  · cases h0
  · by_cases h0 : c = 1
    · exact Or.inl (List.length_eq_zero_iff.1 (by omega))
    · refine Or.inr ⟨g, o + 1, by rw [if_neg h0, Option.map_some, Addr.add_lit], hg, fun j hj => ?_⟩
      have := hcell (j + 1) (by simp only [List.length_cons]; omega)
      rw [show o + (j + 1) = o + 1 + j by omega] at this
      simpa using this
set_option maxHeartbeats 1600000 in
set_option maxRecDepth 1000000 in
theorem readQuestion_any {P : Nat} {v : Value} {l : Ws} {cs : List Comp} {w : World} (A : All cs w) (hR : ∀ W, All cs W → Rt W v l) (hV : ∀ W, All cs W → Vars W) (hT : ∀ W, All cs W → Tab W) (hW : ∀ W, All cs W → Wf W) (hl : l.length ≤ 140737488355328) (hs : ∀ x ∈ l, x.length ≤ 140737488355328) :
    Calls Tryz.prog 123 #[.pointer (some ⟨P, 0, none⟩), v] w fun e w' => e = .returned (rdG P (queR l)) ∧ All cs w' := by
  obtain ⟨ao, c, rfl⟩ := (hR w A).form
  cases l with
  | nil =>
    unfold queR rdG
    dsimp only
    have A0 := hid A
    clear A hR hV hT hW hs hl
    simp only [List.length_nil]
    go_enter Tryz.func123, Tryz.ntmps123
    go_wp2
    go_ret2
    exact ⟨rfl, A0.out⟩
  | cons x r =>
    unfold queR
    dsimp only
    obtain ⟨g, o, rfl, _, hcell⟩ := (hR w A).at (j := 0) (by simp)
    rw [Nat.add_zero, show (x :: r).getD 0 [] = x from rfl] at hcell
    have NC := hid (Number_any (l := x) (hV w A) (hs x (by simp)))
    unfold numA at NC
    have A0 := hid A
    have hcc : (x :: r).length ≤ c := by
      obtain ⟨ao', c', e, hc, hx⟩ := hR w A
      simp only [Value.slice.injEq] at e
      obtain ⟨_, _, rfl⟩ := e
      exact hc
    have h1c : 1 ≤ c := by
      obtain ⟨ao', c', e, hc, hx⟩ := hR w A
      simp only [Value.slice.injEq] at e
      obtain ⟨_, _, rfl⟩ := e
      simp only [List.length_cons] at hc
      omega
    have h0l : 0 < (x :: r).length := by simp
    have h0i : (0 : Int) < ((x :: r).length : Int) := by simp only [List.length_cons]; omega
    have n0 : (((x :: r).length : Int) == 0) = false := by simp; omega
    have RO : Hid (∀ W, All cs W → Calls Tryz.prog 162 #[.slice (if c = 1 then some ⟨g, o, none⟩ else some ⟨g, o + 1, none⟩) ((x :: r).length - 1) (c - 1)] W fun e w' => e = .returned (.tuple #[(opRd r).2.val, .int .i64 (opRd r).1]) ∧ All cs w') := hid (fun W hW' => by
      refine readOp_any hW' (fun W' h' => ?_) hV hT hW (by simp only [List.length_cons] at hl; omega) (fun y hy => hs y (by simp [hy]))
      have := (hR W' h').tl
      rw [Option.map_some, Addr.add_lit] at this
      exact this)
    clear A hR hV hT hW hs
    cases hn : numW x with
    | none =>
      rw [hn] at NC
      simp only [Option.getD_none, Option.isSome_none] at NC
      unfold rdG
      dsimp only
      generalize ByteArray.mk x.toArray = X at *
      generalize (x :: r).length = nl at *
      clear hn RO hl
      go_enter Tryz.func123, Tryz.ntmps123
      go_wp2_with (go_at_call 164; refine NC.out.mono ?_; rintro e w2 ⟨rfl, B2⟩; have A3 := hid (A0.out.later B2); clear B2)
      go_ret2
      exact ⟨rfl, A3.out⟩
    | some q =>
      rw [hn] at NC
      simp only [Option.getD_some, Option.isSome_some] at NC
      dsimp only
      have hnl : (1 : Int) ≤ ((x :: r).length : Int) := by simp only [List.length_cons]; omega
      have hcap : ((x :: r).length : Int) ≤ 140737488355328 := by omega
      have hlc : (x :: r).length ≤ c := by
        have := hcc
        simp only [List.length_cons] at this ⊢
        omega
      generalize ByteArray.mk x.toArray = X at *
      generalize opRd r = rr at *
      obtain ⟨er, ⟨k, nm, tx, n, m⟩⟩ := rr
      simp only [OpR.val] at RO ⊢
      have hli : ((x :: r).length : Int) ≤ (c : Int) := by omega
      have h1i : (1 : Int) ≤ (c : Int) := by omega
      clear hn hl hcc
      generalize (x :: r).length = nl at *
      by_cases he : er ≠ 0
      · rw [if_pos he]
        generalize ByteArray.mk nm.toArray = NM at *
        generalize ByteArray.mk tx.toArray = TX at *
        have he' : (er != 0) = true := by simpa using he
        clear he
        unfold rdG
        go_enter Tryz.func123, Tryz.ntmps123
        go_wp2_with (first | (go_at_call 164; refine NC.out.mono ?_; rintro e w2 ⟨rfl, B2⟩; have A3 := hid (A0.out.later B2); clear B2) | (go_at_call 162; refine (RO.out _ A3.out).mono ?_; rintro e w3 ⟨rfl, A4⟩; have A5 := hid (A4.alloc (.cells #[.int .i64 k, .string NM, .string TX, .int .i64 (n : Int), .int .i64 (m : Int)] 42)); clear A4))
        all_goals
          go_ret2
          exact ⟨rfl, A5.out⟩
      · have he0 : er = 0 := Classical.byContradiction he
        subst he0
        rw [if_neg he]
        clear he
        unfold rdG Wi.fn
        dsimp only
        rw [if_pos rfl]
        generalize ByteArray.mk nm.toArray = NM at *
        generalize ByteArray.mk tx.toArray = TX at *
        go_enter Tryz.func123, Tryz.ntmps123
        go_wp2_with (first | (go_at_call 164; refine NC.out.mono ?_; rintro e w2 ⟨rfl, B2⟩; have A3 := hid (A0.out.later B2); clear B2) | (go_at_call 162; refine (RO.out _ A3.out).mono ?_; rintro e w3 ⟨rfl, A4⟩; have A5 := hid (A4.alloc (.cells #[.int .i64 k, .string NM, .string TX, .int .i64 (n : Int), .int .i64 (m : Int)] 42)); clear A4))
        all_goals
          go_ret2
          exact ⟨rfl, A5.out⟩
theorem tl_sub : (⟨#[115, 117, 98, 109, 105, 116]⟩ : ByteArray).toList = [115, 117, 98, 109, 105, 116] := by decide +kernel
theorem tl_ask : (⟨#[97, 115, 107]⟩ : ByteArray).toList = [97, 115, 107] := by decide +kernel
set_option maxRecDepth 1000000 in
theorem readWish_any {P : Nat} {v : Value} {x : List UInt8} {r : Ws} {cs : List Comp} {w : World} (A : All cs w) (hR : ∀ W, All cs W → Rt W v (x :: r)) (hV : ∀ W, All cs W → Vars W) (hT : ∀ W, All cs W → Tab W) (hW : ∀ W, All cs W → Wf W) (hl : (x :: r).length ≤ 140737488355328) (hs : ∀ y ∈ x :: r, y.length ≤ 140737488355328) :
    Calls Tryz.prog 87 #[.pointer (some ⟨P, 0, none⟩), v] w fun e w' => e = .returned (rdG P (wishR (x :: r))) ∧ All cs w' := by
  obtain ⟨ao, c, rfl⟩ := (hR w A).form
  obtain ⟨g, o, rfl, _, hcell⟩ := (hR w A).at (j := 0) (by simp)
  rw [Nat.add_zero, show (x :: r).getD 0 [] = x from rfl] at hcell
  have A0 := hid A
  have hcc : (x :: r).length ≤ c := by
    obtain ⟨ao', c', e, hc, hx⟩ := hR w A
    simp only [Value.slice.injEq] at e
    obtain ⟨_, _, rfl⟩ := e
    exact hc
  have hT1 : ∀ W, All cs W → Rt W (.slice (if c = 1 then some ⟨g, o, none⟩ else some ⟨g, o + 1, none⟩) ((x :: r).length - 1) (c - 1)) r := fun W h => by
    have := (hR W h).tl
    rw [Option.map_some, Addr.add_lit] at this
    exact this
  have RQ : Hid (∀ W, All cs W → Calls Tryz.prog 122 #[.pointer (some ⟨P, 0, none⟩), .slice (if c = 1 then some ⟨g, o, none⟩ else some ⟨g, o + 1, none⟩) ((x :: r).length - 1) (c - 1)] W fun e w' => e = .returned (rdG P (reqR r)) ∧ All cs w') := hid (fun W hW' => readRequest_any hW' hT1 hV hT hW (by simp only [List.length_cons] at hl; omega) (fun y hy => hs y (by simp [hy])))
  have QQ : Hid (∀ W, All cs W → Calls Tryz.prog 123 #[.pointer (some ⟨P, 0, none⟩), .slice (if c = 1 then some ⟨g, o, none⟩ else some ⟨g, o + 1, none⟩) ((x :: r).length - 1) (c - 1)] W fun e w' => e = .returned (rdG P (queR r)) ∧ All cs w') := hid (fun W hW' => readQuestion_any hW' hT1 hV hT hW (by simp only [List.length_cons] at hl; omega) (fun y hy => hs y (by simp [hy])))
  have HF : Hid (∀ q, ∃ a b, rdG P q = .tuple #[a, .int .i64 b]) := hid (fun q => by cases q <;> exact ⟨_, _, rfl⟩)
  have h0l : 0 < (x :: r).length := by simp
  have h0i : (0 : Int) < ((x :: r).length : Int) := by simp only [List.length_cons]; omega
  have h1n : (1 : Int) ≤ ((x :: r).length : Int) := by simp only [List.length_cons]; omega
  have hli : ((x :: r).length : Int) ≤ (c : Int) := by omega
  have h1i : (1 : Int) ≤ (c : Int) := by omega
  clear A hR hV hT hW hs hT1
  unfold wishR
  dsimp only
  by_cases e1 : x = subB
  · rw [if_pos e1]
    have q1 : ((⟨x.toArray⟩ : ByteArray).toList == (⟨subB.toArray⟩ : ByteArray).toList) = true := by rw [ba_ne]; exact decide_eq_true e1
    have e1b : (⟨subB.toArray⟩ : ByteArray) = ⟨#[115, 117, 98, 109, 105, 116]⟩ := rfl
    rw [e1b, tl_sub] at q1
    obtain ⟨va, vb, hq⟩ := HF.out (reqR r)
    rw [hq] at RQ ⊢
    clear QQ HF hq e1 e1b
    generalize ByteArray.mk x.toArray = X at *
    generalize (x :: r).length = nl at *
    go_enter Tryz.func87, Tryz.ntmps87
    go_wp2_with (go_at_call 122; refine (RQ.out _ A0.out).mono ?_; rintro e w3 ⟨rfl, A4⟩; have A5 := hid A4; clear A4)
    all_goals
      go_ret2
      exact ⟨rfl, A5.out⟩
  · rw [if_neg e1]
    have q1 : ((⟨x.toArray⟩ : ByteArray).toList == (⟨subB.toArray⟩ : ByteArray).toList) = false := by rw [ba_ne]; exact decide_eq_false e1
    have e1b : (⟨subB.toArray⟩ : ByteArray) = ⟨#[115, 117, 98, 109, 105, 116]⟩ := rfl
    rw [e1b, tl_sub] at q1
    have e2b : (⟨askB.toArray⟩ : ByteArray) = ⟨#[97, 115, 107]⟩ := rfl
    by_cases e2 : x = askB
    · rw [if_pos e2]
      have q2 : ((⟨x.toArray⟩ : ByteArray).toList == (⟨askB.toArray⟩ : ByteArray).toList) = true := by rw [ba_ne]; exact decide_eq_true e2
      rw [e2b, tl_ask] at q2
      obtain ⟨va, vb, hq⟩ := HF.out (queR r)
      rw [hq] at QQ ⊢
      clear RQ HF hq e1 e1b e2 e2b
      generalize ByteArray.mk x.toArray = X at *
      generalize (x :: r).length = nl at *
      go_enter Tryz.func87, Tryz.ntmps87
      go_wp2_with (go_at_call 123; refine (QQ.out _ A0.out).mono ?_; rintro e w3 ⟨rfl, A4⟩; have A5 := hid A4; clear A4)
      all_goals
        go_ret2
        exact ⟨rfl, A5.out⟩
    · rw [if_neg e2]
      have q2 : ((⟨x.toArray⟩ : ByteArray).toList == (⟨askB.toArray⟩ : ByteArray).toList) = false := by rw [ba_ne]; exact decide_eq_false e2
      rw [e2b, tl_ask] at q2
      unfold rdG
      clear RQ QQ HF e1 e1b e2 e2b
      generalize ByteArray.mk x.toArray = X at *
      generalize (x :: r).length = nl at *
      go_enter Tryz.func87, Tryz.ntmps87
      go_wp2
      go_ret2
      exact ⟨rfl, A0.out⟩
end Go.Proofs.YtdhkdniddjnigaaGreatDoor
