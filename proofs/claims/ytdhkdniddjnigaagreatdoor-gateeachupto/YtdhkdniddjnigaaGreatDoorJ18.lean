import Derived.Test.YtdhkdniddjnigaaGreatDoorJ17
import Derived.Test.YtdhkdniddjnigaaGreatDoorJ5
import Derived.Test.YtdhkdniddjnigaaGreatDoorJ6
import Derived.Test.YtdhkdniddjnigaaGreatDoorJ9
import Derived.Lib.SliceRun
import Derived.Laws.BitsAllLaws
namespace Go.Proofs.YtdhkdniddjnigaaGreatDoor
open Go.RowKit
set_option linter.unusedVariables false

/-- What was read, as it is answered. -/
def rdG (P : Nat) : Rd → Value
  | .err e => .tuple #[.nilFunc, .int .i64 e]
  | .none => .tuple #[.nilFunc, .int .i64 0]
  | .wish a who o => .tuple #[(Wi.mk 0 a who o).fn P, .int .i64 0]

set_option maxHeartbeats 1600000 in
set_option maxRecDepth 1000000 in
theorem readRequest_any {P : Nat} {v : Value} {l : Ws} {cs : List Comp} {w : World} (A : All cs w) (hR : ∀ W, All cs W → Rt W v l) (hV : ∀ W, All cs W → Vars W) (hT : ∀ W, All cs W → Tab W) (hW : ∀ W, All cs W → Wf W) (hl : l.length ≤ 140737488355328) (hs : ∀ x ∈ l, x.length ≤ 140737488355328) :
    Calls Tryz.prog 122 #[.pointer (some ⟨P, 0, none⟩), v] w fun e w' => e = .returned (rdG P (reqR l)) ∧ All cs w' := by
  obtain ⟨ao, c, rfl⟩ := (hR w A).form
  have RO := hid (readOp_any A hR hV hT hW hl hs)
  unfold reqR
  clear A hR hV hT hW hs hl
  generalize opRd l = r at *
  obtain ⟨er, ⟨k, nm, tx, n, m⟩⟩ := r
  simp only [OpR.val] at RO ⊢
  by_cases he : er ≠ 0
  · rw [if_pos he]
    generalize ByteArray.mk nm.toArray = NM at *
    generalize ByteArray.mk tx.toArray = TX at *
    have he' : (er != 0) = true := by simpa using he
    clear he
    unfold rdG
    generalize l.length = nl at *
    go_enter Tryz.func122, Tryz.ntmps122
    go_wp2_with (go_at_call 162; refine RO.out.mono ?_; rintro e w2 ⟨rfl, A2⟩; have A3 := hid (A2.alloc (.cells #[.int .i64 k, .string NM, .string TX, .int .i64 (n : Int), .int .i64 (m : Int)] 42)); clear A2)
    go_ret2
    exact ⟨rfl, A3.out⟩
  · have he0 : er = 0 := Classical.byContradiction he
    subst he0
    rw [if_neg he]
    clear he
    unfold rdG Wi.fn
    dsimp only
    rw [if_neg (by decide)]
    generalize ByteArray.mk nm.toArray = NM at *
    generalize ByteArray.mk tx.toArray = TX at *
    generalize l.length = nl at *
    go_enter Tryz.func122, Tryz.ntmps122
    go_wp2_with (go_at_call 162; refine RO.out.mono ?_; rintro e w2 ⟨rfl, A2⟩; have A3 := hid (A2.alloc (.cells #[.int .i64 k, .string NM, .string TX, .int .i64 (n : Int), .int .i64 (m : Int)] 42)); clear A2)
    go_ret2
    exact ⟨rfl, A3.out⟩
theorem Rt.tl {w : World} {ao : Option Addr} {n c : Nat} {x : List UInt8} {l : Ws} (h : Rt w (.slice ao n c) (x :: l)) : Rt w (.slice (if c = 1 then ao else ao.map (fun a => a.add 1)) (n - 1) (c - 1)) l := by
  obtain ⟨ao', c', e, hc, hx⟩ := h
  simp only [Value.slice.injEq] at e
  obtain ⟨rfl, rfl, rfl⟩ := e
  simp only [List.length_cons] at hc ⊢
  refine ⟨_, c - 1, rfl, by omega, ?_⟩
  rcases hx with h0 | ⟨g, o, rfl, hg, hcell⟩
  · cases h0
  · by_cases h0 : c = 1
    · exact Or.inl (List.length_eq_zero_iff.1 (by omega))
    · refine Or.inr ⟨g, o + 1, by rw [if_neg h0, Option.map_some, Addr.add_lit], hg, fun j hj => ?_⟩
      have := hcell (j + 1) (by simp only [List.length_cons]; omega)
      rw [show o + (j + 1) = o + 1 + j by omega] at this
      simpa using this
set_option maxHeartbeats 1600000 in
set_option maxRecDepth 1000000 in
theorem readQuestion_any {P : Nat} {v : Value} {l : Ws} {cs : List Comp} {w : World} (A : All cs w) (hR : ∀ W, All cs W → Rt W v l) (hV : ∀ W, All cs W → Vars W) (hT : ∀ W, All cs W → Tab W) (hW : ∀ W, All cs W → Wf W) (hl : l.length ≤ 140737488355328) (hs : ∀ x ∈ l, x.length ≤ 140737488355328) :
    Calls Tryz.prog 123 #[.pointer (some ⟨P, 0, none⟩), v] w fun e w' => e = .returned (rdG P (queR l)) ∧ All cs w' := by
  obtain ⟨ao, c, rfl⟩ := (hR w A).form
  cases l with
  | nil =>
    unfold queR rdG
    dsimp only
    have A0 := hid A
    clear A hR hV hT hW hs hl
    simp only [List.length_nil]
    go_enter Tryz.func123, Tryz.ntmps123
    go_wp2
    go_ret2
    exact ⟨rfl, A0.out⟩
  | cons x r =>
    unfold queR
    dsimp only
    obtain ⟨g, o, rfl, _, hcell⟩ := (hR w A).at (j := 0) (by simp)
    rw [Nat.add_zero, show (x :: r).getD 0 [] = x from rfl] at hcell
    have NC := hid (Number_any (l := x) (hV w A) (hs x (by simp)))
    unfold numA at NC
    have A0 := hid A
    have hcc : (x :: r).length ≤ c := by
      obtain ⟨ao', c', e, hc, hx⟩ := hR w A
      simp only [Value.slice.injEq] at e
      obtain ⟨_, _, rfl⟩ := e
      exact hc
    have h1c : 1 ≤ c := by
      obtain ⟨ao', c', e, hc, hx⟩ := hR w A
      simp only [Value.slice.injEq] at e
      obtain ⟨_, _, rfl⟩ := e
      simp only [List.length_cons] at hc
      omega
    have h0l : 0 < (x :: r).length := by simp
    have h0i : (0 : Int) < ((x :: r).length : Int) := by simp only [List.length_cons]; omega
    have n0 : (((x :: r).length : Int) == 0) = false := by simp; omega
    have RO : Hid (∀ W, All cs W → Calls Tryz.prog 162 #[.slice (if c = 1 then some ⟨g, o, none⟩ else some ⟨g, o + 1, none⟩) ((x :: r).length - 1) (c - 1)] W fun e w' => e = .returned (.tuple #[(opRd r).2.val, .int .i64 (opRd r).1]) ∧ All cs w') := hid (fun W hW' => by
      refine readOp_any hW' (fun W' h' => ?_) hV hT hW (by simp only [List.length_cons] at hl; omega) (fun y hy => hs y (by simp [hy]))
      have := (hR W' h').tl
      rw [Option.map_some, Addr.add_lit] at this
      exact this)
    clear A hR hV hT hW hs
    cases hn : numW x with
    | none =>
      rw [hn] at NC
      simp only [Option.getD_none, Option.isSome_none] at NC
      unfold rdG
      dsimp only
      generalize ByteArray.mk x.toArray = X at *
      generalize (x :: r).length = nl at *
      clear hn RO hl
      go_enter Tryz.func123, Tryz.ntmps123
      go_wp2_with (go_at_call 164; refine NC.out.mono ?_; rintro e w2 ⟨rfl, B2⟩; have A3 := hid (A0.out.later B2); clear B2)
      go_ret2
      exact ⟨rfl, A3.out⟩
    | some q =>
      rw [hn] at NC
      simp only [Option.getD_some, Option.isSome_some] at NC
      dsimp only
      have hnl : (1 : Int) ≤ ((x :: r).length : Int) := by simp only [List.length_cons]; omega
      have hcap : ((x :: r).length : Int) ≤ 140737488355328 := by omega
      have hlc : (x :: r).length ≤ c := by
        have := hcc
        simp only [List.length_cons] at this ⊢
        omega
      generalize ByteArray.mk x.toArray = X at *
      generalize opRd r = rr at *
      obtain ⟨er, ⟨k, nm, tx, n, m⟩⟩ := rr
      simp only [OpR.val] at RO ⊢
      have hli : ((x :: r).length : Int) ≤ (c : Int) := by omega
      have h1i : (1 : Int) ≤ (c : Int) := by omega
      clear hn hl hcc
      generalize (x :: r).length = nl at *
      by_cases he : er ≠ 0
      · rw [if_pos he]
        generalize ByteArray.mk nm.toArray = NM at *
        generalize ByteArray.mk tx.toArray = TX at *
        have he' : (er != 0) = true := by simpa using he
        clear he
        unfold rdG
        go_enter Tryz.func123, Tryz.ntmps123
        go_wp2_with (first | (go_at_call 164; refine NC.out.mono ?_; rintro e w2 ⟨rfl, B2⟩; have A3 := hid (A0.out.later B2); clear B2) | (go_at_call 162; refine (RO.out _ A3.out).mono ?_; rintro e w3 ⟨rfl, A4⟩; have A5 := hid (A4.alloc (.cells #[.int .i64 k, .string NM, .string TX, .int .i64 (n : Int), .int .i64 (m : Int)] 42)); clear A4))
        all_goals
          go_ret2
          exact ⟨rfl, A5.out⟩
      · have he0 : er = 0 := Classical.byContradiction he
        subst he0
        rw [if_neg he]
        clear he
        unfold rdG Wi.fn
        dsimp only
        rw [if_pos rfl]
        generalize ByteArray.mk nm.toArray = NM at *
        generalize ByteArray.mk tx.toArray = TX at *
        go_enter Tryz.func123, Tryz.ntmps123
        go_wp2_with (first | (go_at_call 164; refine NC.out.mono ?_; rintro e w2 ⟨rfl, B2⟩; have A3 := hid (A0.out.later B2); clear B2) | (go_at_call 162; refine (RO.out _ A3.out).mono ?_; rintro e w3 ⟨rfl, A4⟩; have A5 := hid (A4.alloc (.cells #[.int .i64 k, .string NM, .string TX, .int .i64 (n : Int), .int .i64 (m : Int)] 42)); clear A4))
        all_goals
          go_ret2
          exact ⟨rfl, A5.out⟩
theorem tl_sub : (⟨#[115, 117, 98, 109, 105, 116]⟩ : ByteArray).toList = [115, 117, 98, 109, 105, 116] := by decide +kernel
theorem tl_ask : (⟨#[97, 115, 107]⟩ : ByteArray).toList = [97, 115, 107] := by decide +kernel
set_option maxRecDepth 1000000 in
theorem readWish_any {P : Nat} {v : Value} {x : List UInt8} {r : Ws} {cs : List Comp} {w : World} (A : All cs w) (hR : ∀ W, All cs W → Rt W v (x :: r)) (hV : ∀ W, All cs W → Vars W) (hT : ∀ W, All cs W → Tab W) (hW : ∀ W, All cs W → Wf W) (hl : (x :: r).length ≤ 140737488355328) (hs : ∀ y ∈ x :: r, y.length ≤ 140737488355328) :
    Calls Tryz.prog 87 #[.pointer (some ⟨P, 0, none⟩), v] w fun e w' => e = .returned (rdG P (wishR (x :: r))) ∧ All cs w' := by
  obtain ⟨ao, c, rfl⟩ := (hR w A).form
  obtain ⟨g, o, rfl, _, hcell⟩ := (hR w A).at (j := 0) (by simp)
  rw [Nat.add_zero, show (x :: r).getD 0 [] = x from rfl] at hcell
  have A0 := hid A
  have hcc : (x :: r).length ≤ c := by
    obtain ⟨ao', c', e, hc, hx⟩ := hR w A
    simp only [Value.slice.injEq] at e
    obtain ⟨_, _, rfl⟩ := e
    exact hc
  have hT1 : ∀ W, All cs W → Rt W (.slice (if c = 1 then some ⟨g, o, none⟩ else some ⟨g, o + 1, none⟩) ((x :: r).length - 1) (c - 1)) r := fun W h => by
    have := (hR W h).tl
    rw [Option.map_some, Addr.add_lit] at this
    exact this
  have RQ : Hid (∀ W, All cs W → Calls Tryz.prog 122 #[.pointer (some ⟨P, 0, none⟩), .slice (if c = 1 then some ⟨g, o, none⟩ else some ⟨g, o + 1, none⟩) ((x :: r).length - 1) (c - 1)] W fun e w' => e = .returned (rdG P (reqR r)) ∧ All cs w') := hid (fun W hW' => readRequest_any hW' hT1 hV hT hW (by simp only [List.length_cons] at hl; omega) (fun y hy => hs y (by simp [hy])))
  have QQ : Hid (∀ W, All cs W → Calls Tryz.prog 123 #[.pointer (some ⟨P, 0, none⟩), .slice (if c = 1 then some ⟨g, o, none⟩ else some ⟨g, o + 1, none⟩) ((x :: r).length - 1) (c - 1)] W fun e w' => e = .returned (rdG P (queR r)) ∧ All cs w') := hid (fun W hW' => readQuestion_any hW' hT1 hV hT hW (by simp only [List.length_cons] at hl; omega) (fun y hy => hs y (by simp [hy])))
  have HF : Hid (∀ q, ∃ a b, rdG P q = .tuple #[a, .int .i64 b]) := hid (fun q => by cases q <;> exact ⟨_, _, rfl⟩)
  have h0l : 0 < (x :: r).length := by simp
  have h0i : (0 : Int) < ((x :: r).length : Int) := by simp only [List.length_cons]; omega
  have h1n : (1 : Int) ≤ ((x :: r).length : Int) := by simp only [List.length_cons]; omega
  have hli : ((x :: r).length : Int) ≤ (c : Int) := by omega
  have h1i : (1 : Int) ≤ (c : Int) := by omega
  clear A hR hV hT hW hs hT1
  unfold wishR
  dsimp only
  by_cases e1 : x = subB
  · rw [if_pos e1]
    have q1 : ((⟨x.toArray⟩ : ByteArray).toList == (⟨subB.toArray⟩ : ByteArray).toList) = true := by rw [ba_ne]; exact decide_eq_true e1
    have e1b : (⟨subB.toArray⟩ : ByteArray) = ⟨#[115, 117, 98, 109, 105, 116]⟩ := rfl
    rw [e1b, tl_sub] at q1
    obtain ⟨va, vb, hq⟩ := HF.out (reqR r)
    rw [hq] at RQ ⊢
    clear QQ HF hq e1 e1b
    generalize ByteArray.mk x.toArray = X at *
    generalize (x :: r).length = nl at *
    go_enter Tryz.func87, Tryz.ntmps87
    go_wp2_with (go_at_call 122; refine (RQ.out _ A0.out).mono ?_; rintro e w3 ⟨rfl, A4⟩; have A5 := hid A4; clear A4)
    all_goals
      go_ret2
      exact ⟨rfl, A5.out⟩
  · rw [if_neg e1]
    have q1 : ((⟨x.toArray⟩ : ByteArray).toList == (⟨subB.toArray⟩ : ByteArray).toList) = false := by rw [ba_ne]; exact decide_eq_false e1
    have e1b : (⟨subB.toArray⟩ : ByteArray) = ⟨#[115, 117, 98, 109, 105, 116]⟩ := rfl
    rw [e1b, tl_sub] at q1
    have e2b : (⟨askB.toArray⟩ : ByteArray) = ⟨#[97, 115, 107]⟩ := rfl
    by_cases e2 : x = askB
    · rw [if_pos e2]
      have q2 : ((⟨x.toArray⟩ : ByteArray).toList == (⟨askB.toArray⟩ : ByteArray).toList) = true := by rw [ba_ne]; exact decide_eq_true e2
      rw [e2b, tl_ask] at q2
      obtain ⟨va, vb, hq⟩ := HF.out (queR r)
      rw [hq] at QQ ⊢
      clear RQ HF hq e1 e1b e2 e2b
      generalize ByteArray.mk x.toArray = X at *
      generalize (x :: r).length = nl at *
      go_enter Tryz.func87, Tryz.ntmps87
      go_wp2_with (go_at_call 123; refine (QQ.out _ A0.out).mono ?_; rintro e w3 ⟨rfl, A4⟩; have A5 := hid A4; clear A4)
      all_goals
        go_ret2
        exact ⟨rfl, A5.out⟩
    · rw [if_neg e2]
      have q2 : ((⟨x.toArray⟩ : ByteArray).toList == (⟨askB.toArray⟩ : ByteArray).toList) = false := by rw [ba_ne]; exact decide_eq_false e2
      rw [e2b, tl_ask] at q2
      unfold rdG
      clear RQ QQ HF e1 e1b e2 e2b
      generalize ByteArray.mk x.toArray = X at *
      generalize (x :: r).length = nl at *
      go_enter Tryz.func87, Tryz.ntmps87
      go_wp2
      go_ret2
      exact ⟨rfl, A0.out⟩
end Go.Proofs.YtdhkdniddjnigaaGreatDoor

namespace Go.Proofs.YtdhkdniddjnigaaGreatDoor
open Go.RowKit
set_option linter.unusedVariables false

theorem splitW_ok {l : List UInt8} {ws : Ws} (h : splitW l = .ok ws) : l.length ≤ 8192 ∧ runW .ahead [] 0 l = .ok ws := by
  unfold splitW at h
  split at h
  · simp at h
  · exact ⟨by omega, h⟩
theorem err_ok {A : Ans} (h : A.err = 0) : A = .ok A.ws := by
  cases A <;> simp [Ans.err] at h <;> rfl
/-- A line's words are not longer than the line. -/
theorem lenJ_wsz (ws : Ws) : lenJ ws ≤ 16 * wsz ws := by
  unfold lenJ wsz
  induction ws with
  | nil => simp
  | cons x r ih => simp only [List.map_cons, List.sum_cons, List.length_cons] at ih ⊢; omega
theorem finW_wsz (s : St) (ws : Ws) (k : Nat) : wsz (finW s ws k).ws ≤ s.held + wsz ws := by
  cases s <;> simp [finW, Ans.ws, St.held, wsz] <;> omega
theorem runW_wsz : ∀ (t : List UInt8) (s : St) (ws : Ws) (k : Nat), wsz (runW s ws k t).ws ≤ s.held + wsz ws + 2 * t.length
  | [], s, ws, k => by rw [runW]; exact Nat.le_trans (finW_wsz s ws k) (by simp)
  | b :: t, s, ws, k => by
    rw [runW]
    cases hs : stepW s ws k b with
    | go s' ws' =>
      simp only
      have h1 := runW_wsz t s' ws' (k + 1)
      have h2 := stepW_held hs
      simp only [List.length_cons]
      omega
    | bad j => simp [Ans.ws, wsz]

end Go.Proofs.YtdhkdniddjnigaaGreatDoor

namespace Go.Proofs.YtdhkdniddjnigaaGreatDoor
open Go.RowKit
set_option linter.unusedVariables false

def cdN : Ws := [[100, 111, 110, 101], [110, 111, 110, 101], [116, 104, 101, 114, 101], [102, 117, 108, 108], [101, 109, 112, 116, 121]]
/-- The codes' table. -/
def Cd (w : World) : Prop := 1 < w.heap.size ∧ ∀ k, k < 5 → w.cell? ⟨1, k, none⟩ = some (.string ⟨(cdN.getD k []).toArray⟩)
theorem Cd.later {w w' : World} (h : Cd w) (hb : Below w.heap.size w w') : Cd w' := ⟨Nat.lt_of_lt_of_le h.1 hb.size, fun k hk => cell_under hb h.1 (h.2 k hk)⟩
abbrev mkB (x : List UInt8) : ByteArray := ⟨x.toArray⟩
theorem Rt.txts {w : World} {s : Value} {l : Ws} (h : Rt w s l) : Txts w s (l.map mkB) := by
  obtain ⟨ao, c, e, hc, hx⟩ := h
  refine ⟨ao, c, by rw [e, List.length_map], by rw [List.length_map]; exact hc, ?_⟩
  rcases hx with rfl | ⟨g, o, ea, hg, hcell⟩
  · exact Or.inl rfl
  · refine Or.inr ⟨g, o, ea, hg, fun j hj => ?_⟩
    rw [List.length_map] at hj
    rw [hcell j hj, List.getElem_map]
/-- What CheckResult tells. -/
def chkW (c n : Int) (l : Ws) : Int := chkX c n (l.map mkB)
theorem check12 {w : World} (c n : Int) {s : Value} {l : Ws} (h : Rt w s l) (hl : l.length ≤ 140737488355328) : Calls Tryz.prog 98 #[resV c n s] w fun e w' => e = .returned (.int .i64 (chkW c n l)) ∧ Below w.heap.size w w' := checkX_any c n h.txts (by rw [List.length_map]; omega)
theorem check15 {w : World} (c n : Int) {s : Value} {l : Ws} (h : Rt w s l) (hl : l.length ≤ 140737488355328) : Calls Tryz.prog 71 #[resV c n s] w fun e w' => e = .returned (.int .i64 (chkW c n l)) ∧ Below w.heap.size w w' := checkX_ref c n h.txts (by rw [List.length_map]; omega)

set_option maxRecDepth 1000000 in
theorem clone_any {v : Value} {l : Ws} {cs : List Comp} {w : World} (A : All cs w) (h : Rt w v l) (hl : l.length * 16 ≤ 140737488355328) :
    Calls Tryz.prog 130 #[v] w fun e w' => ∃ v', e = .returned v' ∧ All (ownC 9 v' (txW l) :: cs) w' := by
  obtain ⟨ao0, c0, rfl⟩ := h.form
  obtain ⟨ao, c, w', hr, A2⟩ := appR (l := []) (own_new A [] (by simp)) (h.later (ba w _)) (by simpa using hl)
  rw [List.length_nil, Nat.zero_add, List.nil_append] at A2
  rw [List.length_nil, Nat.zero_add] at hr
  cases ao0 with
  | none =>
    have hl0 : l = [] := by
      obtain ⟨ao', c', e, _, hx⟩ := h
      rcases hx with rfl | ⟨g, o, rfl, _⟩
      · rfl
      · simp at e
    subst hl0
    have D := hid (All.addNil (e := 9) A)
    have he := fun w => Lib.run_eql_slice_nil (P := Tryz.prog) w 43 9 none 0 c0 0 0 Tryz.underlying43
    clear hr A2 A h hl
    go_enter Tryz.func130, Tryz.ntmps130
    go_wp2
    go_ret
    exact ⟨_, rfl, D.out⟩
  | some a =>
    have R : Hid ((Builtin.append_ #[43, 43] 43 #[.slice (some ⟨w.heap.size, 0, none⟩) 0 0, .slice (some a) l.length c0]).run Tryz.prog (w.alloc (.cells #[] 9)) = .ok (.slice ao l.length c) w') := hid hr
    have B := hid A2
    have he := fun w => Lib.run_eql_slice_nil (P := Tryz.prog) w 43 9 (some a) l.length c0 0 0 Tryz.underlying43
    clear hr A2 A h hl
    generalize hn : l.length = n at *
    clear hn
    go_enter Tryz.func130, Tryz.ntmps130
    go_wp2_with (at_builtin; refine wpList_append_run rfl _ _ 43 rfl _ _ _ _ rfl rfl R.out ?_)
    go_ret
    exact ⟨_, rfl, B.out⟩

set_option maxRecDepth 1000000 in
theorem codes_any {w : World} : Calls Tryz.prog 72 #[] w fun e w' => e = .returned (.slice (some ⟨w.heap.size, 0, none⟩) 5 5) ∧ w' = w.alloc (.cells (txW cdN).toArray 9) := by
  have e1 : (txW cdN).toArray = #[.string ⟨#[100, 111, 110, 101]⟩, .string ⟨#[110, 111, 110, 101]⟩, .string ⟨#[116, 104, 101, 114, 101]⟩, .string ⟨#[102, 117, 108, 108]⟩, .string ⟨#[101, 109, 112, 116, 121]⟩] := rfl
  rw [e1]
  clear e1
  go_enter Tryz.func72, Tryz.ntmps72
  go_wp2
  go_ret
  exact ⟨rfl, rfl⟩
theorem rt_codes (w : World) : Rt (w.alloc (.cells (txW cdN).toArray 9)) (.slice (some ⟨w.heap.size, 0, none⟩) 5 5) cdN := rt_own (own_new (All.came w) cdN (by simp [cdN]))
end Go.Proofs.YtdhkdniddjnigaaGreatDoor

namespace Go.Proofs.YtdhkdniddjnigaaGreatDoor
open Go.RowKit
set_option linter.unusedVariables false

/-- What stands in the memory besides. -/
structure Evs (cs : List Comp) : Prop where
  V : ∀ W, All cs W → Vars W
  T : ∀ W, All cs W → Tab W
  W : ∀ W, All cs W → Wf W
  M : ∀ W, All cs W → ∃ m, W.cell? ⟨0, 0, none⟩ = some (.int .i64 m)
  I : ∃ w0, inC w0 ∈ cs ∧ Tab w0
theorem Evs.more {cs ds : List Comp} (h : Evs cs) (hp : ∀ W, All ds W → All cs W) (hi : ∀ c ∈ cs, c ∈ ds) : Evs ds :=
  ⟨fun W k => h.V W (hp W k), fun W k => h.T W (hp W k), fun W k => h.W W (hp W k), fun W k => h.M W (hp W k), by obtain ⟨w0, h1, h2⟩ := h.I; exact ⟨w0, hi _ h1, h2⟩⟩
theorem Evs.cons {cs : List Comp} (h : Evs cs) (c : Comp) : Evs (c :: cs) := h.more (fun W k => k.tail) (fun d hd => List.mem_cons_of_mem _ hd)
theorem All.app {xs cs : List Comp} {w : World} (h : All (xs ++ cs) w) : All cs w := by
  induction xs with
  | nil => exact h
  | cons x xs ih => exact ih h.tail
theorem Evs.app {cs : List Comp} (h : Evs cs) (xs : List Comp) : Evs (xs ++ cs) := h.more (fun W k => k.app) (fun d hd => List.mem_append_right _ hd)

theorem readM_eq (tx : List UInt8) (long : Bool) : readM tx long = if (wdsM tx long).2 ≠ 0 then .err ((wdsM tx long).2 : Int) else wishR (wdsM tx long).1 := by
  unfold readM wdsM
  cases long <;> rfl
theorem splitW_wsz (l : List UInt8) : wsz (splitW l).ws ≤ 16384 := by
  unfold splitW
  split
  · simp [Ans.ws, wsz]
  · have := runW_wsz l .ahead [] 0
    simp only [St.held, wsz, List.length_nil, List.map_nil, List.sum_nil] at this ⊢
    omega
theorem wds_wsz (tx : List UInt8) (long : Bool) : wsz (wdsM tx long).1 ≤ 16384 := by
  unfold wdsM
  cases long
  · exact splitW_wsz tx
  · simp [wsz]
theorem wsz_mem {ws : Ws} {x : List UInt8} (h : x ∈ ws) : x.length ≤ wsz ws := by
  unfold wsz
  induction ws with
  | nil => cases h
  | cons y r ih =>
    simp only [List.map_cons, List.sum_cons, List.length_cons]
    rcases List.mem_cons.1 h with rfl | h
    · omega
    · have := ih h; omega
set_option maxHeartbeats 1600000 in
set_option maxRecDepth 1000000 in
/-- What a line says. -/
theorem read_gt {G P : Nat} {s : Gs} {tl : List UInt8} {b m : Int} {cs : List Comp} {w : World} {txv wsv tov : Value} (A : All (gtL G P s tl b m txv wsv tov ++ cs) w) (hs : s.ok) (E : Evs cs) :
    Calls Tryz.prog 53 #[.pointer (some ⟨G, 3, none⟩), .agg #[.int .i64 s.no, txv, .bool s.long]] w fun e w' => e = .returned (rdG P (readM s.tx s.long)) ∧ All (gtL G P s tl b m txv wsv tov ++ cs) w' := by
  obtain ⟨H, hH⟩ : ∃ H, Hid (H = w.heap.size) := ⟨_, hid rfl⟩
  have A0 := hid (A.addBlk [.int .i64 s.no, txv, .bool s.long] 74)
  rw [← hH.out] at A0
  have WC := hid (words_any (B := H) (v := txv) (tx := s.tx) (long := s.long) A0.out (by rw [cell_at A0.out.1.2.1]; rfl) (by rw [cell_at A0.out.1.2.1]; rfl) (reads_own A0.out.tail.tail) (by have := hs.2; omega))
  rw [readM_eq]
  have hz := wds_wsz s.tx s.long
  have HC3 : Hid (∀ X W, All (X ++ (gtL G P s tl b m txv wsv tov ++ cs)) W → W.cell? ⟨G, 3, none⟩ = some (ptr P)) := hid (fun X W h => Gt.cell h.app 3)
  have E' := E.app (gtL G P s tl b m txv wsv tov)
  clear A hs E
  generalize wdsM s.tx s.long = q at *
  obtain ⟨ws, er⟩ := q
  dsimp only at WC hz ⊢
  obtain ⟨CS, hCS⟩ : ∃ CS, Hid (CS = gtL G P s tl b m txv wsv tov ++ cs) := ⟨_, hid rfl⟩
  rw [← hCS.out] at A0 WC HC3 E' ⊢
  clear hCS
  by_cases he : er ≠ 0
  · rw [if_pos he]
    have he' : (((er : Int)) != 0) = true := by simp; omega
    unfold rdG
    clear he hz
    go_enter Tryz.func53, Tryz.ntmps53
    go_upto_region 1 with fail
    simp only [← hH.out]
    generalize w.alloc (.cells #[.int .i64 s.no, txv, .bool s.long] 74) = w1 at *
    go_wp2_with (go_at_call 86; refine WC.out.mono ?_; rintro e w2 ⟨v', rfl, A2⟩; have A3 := hid A2.tail.tail; obtain ⟨ao', c', rfl⟩ := owns_form A2.1.2.1; clear A2)
    go_ret2
    exact ⟨rfl, A3.out⟩
  · have he0 : er = 0 := by omega
    subst he0
    rw [if_neg he]
    clear he
    cases ws with
    | nil =>
      unfold wishR rdG
      dsimp only
      clear hz
      go_enter Tryz.func53, Tryz.ntmps53
      go_upto_region 1 with fail
      simp only [← hH.out]
      generalize w.alloc (.cells #[.int .i64 s.no, txv, .bool s.long] 74) = w1 at *
      go_wp2_with (go_at_call 86; refine WC.out.mono ?_; rintro e w2 ⟨v', rfl, A2⟩; have A3 := hid A2.tail.tail; obtain ⟨ao', c', rfl⟩ := owns_form A2.1.2.1; simp only [txW, List.map_nil, List.length_nil]; clear A2)
      go_ret2
      exact ⟨rfl, A3.out⟩
    | cons x r =>
      have RW : Hid (∀ v' W, All (ownC 9 v' (txW (x :: r)) :: blkC H [.int .i64 s.no, txv, .bool s.long] 74 :: CS) W → Calls Tryz.prog 87 #[.pointer (some ⟨P, 0, none⟩), v'] W fun e w' => e = .returned (rdG P (wishR (x :: r))) ∧ All (ownC 9 v' (txW (x :: r)) :: blkC H [.int .i64 s.no, txv, .bool s.long] 74 :: CS) w') := hid (fun v' W h => by
        have E2 := (E'.cons (blkC H [.int .i64 s.no, txv, .bool s.long] 74)).cons (ownC 9 v' (txW (x :: r)))
        exact readWish_any h (fun W' h' => rt_own h') E2.V E2.T E2.W (by have : (x :: r).length ≤ wsz (x :: r) := by (unfold wsz; omega)
                                                                         omega) (fun y hy => by have := wsz_mem hy; omega))
      obtain ⟨va, vb, hq⟩ : ∃ va vb, rdG P (wishR (x :: r)) = .tuple #[va, .int .i64 vb] := by
        generalize wishR (x :: r) = qq
        cases qq <;> exact ⟨_, _, rfl⟩
      rw [hq] at RW ⊢
      have hn0 : (((x :: r).length : Int) == 0) = false := by simp; omega
      have hlen : (txW (x :: r)).length = (x :: r).length := txW_length _
      clear hz hq
      go_enter Tryz.func53, Tryz.ntmps53
      go_upto_region 1 with fail
      simp only [← hH.out]
      generalize w.alloc (.cells #[.int .i64 s.no, txv, .bool s.long] 74) = w1 at *
      go_wp2_with fail
      refine WC.out.mono ?_
      rintro e w2 ⟨v', rfl, A2⟩
      obtain ⟨ao', c', rfl⟩ := owns_form A2.1.2.1
      simp only [hlen] at A2 ⊢
      have RW2 := hid (RW.out _ _ A2)
      have c3 := HC3.out [ownC 9 (.slice ao' (x :: r).length c') (txW (x :: r)), blkC H [.int .i64 s.no, txv, .bool s.long] 74] w2 A2
      clear A2 RW WC HC3 hlen
      generalize (x :: r).length = nl at *
      go_wp2_with (go_at_call 87; refine RW2.out.mono ?_; rintro e w3 ⟨rfl, A4⟩; have A5 := hid A4.tail.tail; clear A4)
      go_ret2
      exact ⟨rfl, A5.out⟩
end Go.Proofs.YtdhkdniddjnigaaGreatDoor

namespace Go.Proofs.YtdhkdniddjnigaaGreatDoor
open Go.RowKit
set_option linter.unusedVariables false

set_option maxRecDepth 1000000 in
/-- Ask of a replica that is not there. -/
theorem ask_arg {P : Nat} {x : Px} {b m n1 n2 : Int} {cs : List Comp} {w w0 : World} (h : All (pxL P x b m n1 n2 ++ cs) w) (hT : Tab w0) (hin : inC w0 ∈ cs) (k : Int) (nm tx : ByteArray) (a d : Int) (who : Int) (hc : chkA k nm.size tx.size a d = 0) (hk : 6 ≤ k ∧ k ≤ 8) (hw : who < 0 ∨ x.n ≤ who) : Calls Tryz.prog 193 #[.pointer (some ⟨P, 0, none⟩), .int .i64 who, opV k nm tx a d] w fun e w' => e = .returned (.tuple #[.slice none 0 0, .int .i64 1]) ∧ All (pxL P x b m n1 n2 ++ cs) w' := by
  obtain ⟨H, hH⟩ : ∃ H, Hid (H = w.heap.size) := ⟨_, hid rfl⟩
  have A1 := hid (h.addBlk [.int .i64 k, .string nm, .string tx, .int .i64 a, .int .i64 d] 42)
  rw [← hH.out] at A1
  have A1 := hid (A1.out.perm (List.perm_middle (l₁ := pxL P x b m n1 n2)).symm)
  have C : Hid (Calls Tryz.prog 169 #[opV k nm tx a d] (w.alloc (.cells #[.int .i64 k, .string nm, .string tx, .int .i64 a, .int .i64 d] 42)) fun e w' => e = .returned (.int .i64 0) ∧ Below (w.alloc (.cells #[.int .i64 k, .string nm, .string tx, .int .i64 a, .int .i64 d] 42)).heap.size (w.alloc (.cells #[.int .i64 k, .string nm, .string tx, .int .i64 a, .int .i64 d] 42)) w') := hid (by
    have := check_any (hT.below (A1.out.into (List.mem_append_right _ (List.mem_cons_of_mem _ hin)))) k nm tx a d
    rw [hc] at this
    exact this)
  have C31 : Hid (∀ W : World, Calls Tryz.prog 170 #[.int .i64 k] W fun e w' => e = .returned (.bool true) ∧ w' = W) := hid (fun W => by have := query_any (w := W) k; rw [decide_eq_true hk] at this; exact this)
  have hw' : (0 ≤ who ∧ decide (who < 0) = false ∧ decide (x.n ≤ who) = true ∧ x.n ≤ who) ∨ decide (who < 0) = true := by
    by_cases h0 : who < 0
    · exact Or.inr (decide_eq_true h0)
    · exact Or.inl ⟨by omega, decide_eq_false h0, decide_eq_true (by omega), by omega⟩
  clear h hT hin hc hk hw
  rcases hw' with ⟨h0, e1, e2, h2⟩ | e1
  all_goals
    go_enter Tryz.func193, Tryz.ntmps193
    go_wp2_with fail
    refine C.out.mono ?_
    rintro e w1 ⟨rfl, BB⟩
    have A2 : Hid (All (pxL P x b m n1 n2 ++ (blkC H [.int .i64 k, .string nm, .string tx, .int .i64 a, .int .i64 d] 42 :: cs)) w1) := hid (A1.out.later BB)
    simp only [← hH.out]
    clear BB C A1
    have SF : Hid (∀ W, All (pxL P x b m n1 n2 ++ (blkC H [.int .i64 k, .string nm, .string tx, .int .i64 a, .int .i64 d] 42 :: cs)) W → W.cell? ⟨H, 0, none⟩ = some (.int .i64 k) ∧ W.cell? ⟨H, 1, none⟩ = some (.string nm) ∧ W.cell? ⟨H, 2, none⟩ = some (.string tx) ∧ W.cell? ⟨H, 3, none⟩ = some (.int .i64 a) ∧ W.cell? ⟨H, 4, none⟩ = some (.int .i64 d)) := hid (fun W hW => opCells (hW.blk (by simp)))
    have k0 : w1.cell? ⟨H, 0, none⟩ = some (.int .i64 k) := (SF.out _ A2.out).1
    have c0 : w1.cell? ⟨P, 0, none⟩ = some (.int .i64 x.n) := by rw [cell_at A2.out.px]; rfl
    go_wp2_with (go_at_call 170; refine (C31.out _).mono ?_; rintro e w' ⟨rfl, rfl⟩)
    go_ret2
    exact ⟨rfl, (A2.out.perm (List.perm_middle (l₁ := pxL P x b m n1 n2))).tail⟩

/-- What is known of a client. -/
structure PxI (x : Px) (m n1 n2 : Int) : Prop where
  n : x.n = 3 ∨ x.n = 5 ∨ x.n = 7
  v : 0 ≤ x.view
  rq : 0 ≤ x.rq.num ∧ x.rq.num ≤ 1099511627776
  qu : 0 ≤ x.qu.num ∧ x.qu.num ≤ 1099511627776
  b1 : 1 ≤ n1 ∧ n1 ≤ m
  b2 : 1 ≤ n2 ∧ n2 ≤ m
  m : m ≤ 1024
def bg1 (m n1 : Int) (w : Wi) : Int := if w.ask then n1 else min (2 * n1) m
def bg2 (m n2 : Int) (w : Wi) : Int := if w.ask then min (2 * n2) m else n2
/-- What comes of a wish that begins. -/
def BgPost (P : Nat) (x : Px) (b m n1 n2 : Int) (q : Wi) (cs : List Comp) (e : Ending) (w' : World) : Prop :=
  (bgE x q ≠ 0 ∧ e = .returned (.tuple #[.slice none 0 0, .int .i64 (bgE x q)]) ∧ All (pxL P x b m n1 n2 ++ cs) w') ∨
  (bgE x q = 0 ∧ ∃ H, e = .returned (.tuple #[.slice (some ⟨H, 0, none⟩) 1 1, .int .i64 0]) ∧ All (blkC H (bgM x q n1 n2).cells 51 :: (pxL P (bgX x q n1 n2) b m (bg1 m n1 q) (bg2 m n2 q) ++ cs)) w')

theorem submit_any {P : Nat} {x : Px} {b m n1 n2 : Int} {cs : List Comp} {w w0 : World} (h : All (pxL P x b m n1 n2 ++ cs) w) (hT : Tab w0) (hin : inC w0 ∈ cs) (I : PxI x m n1 n2) (q : Wi) (hq : q.ask = false) :
    Calls Tryz.prog 191 #[.pointer (some ⟨P, 0, none⟩), q.o.val] w (BgPost P x b m n1 n2 q cs) := by
  by_cases hc : q.chk = 0
  · cases hw : x.rq.wts with
    | true =>
      have e1 : bgE x q = 141 := by unfold bgE; rw [if_neg (by simp [hc]), hq]; simp [hw]
      refine (submit_no h hT hin q.o.k _ _ _ _ hc (E := 141) (by decide) (fun W cs' hW => begR_busy hW hw _ ⟨_, _, _, _, _, rfl⟩)).mono ?_
      rintro e w' ⟨rfl, hA⟩
      exact Or.inl ⟨by rw [e1]; decide, by rw [e1], hA⟩
    | false =>
      by_cases hn : x.rq.num = 1099511627776
      · have e1 : bgE x q = 142 := by unfold bgE; rw [if_neg (by simp [hc]), hq]; simp [hw, hn]
        refine (submit_no h hT hin q.o.k _ _ _ _ hc (E := 142) (by decide) (fun W cs' hW => begR_end hW hw hn _ ⟨_, _, _, _, _, rfl⟩)).mono ?_
        rintro e w' ⟨rfl, hA⟩
        exact Or.inl ⟨by rw [e1]; decide, by rw [e1], hA⟩
      · have e1 : bgE x q = 0 := by unfold bgE; rw [if_neg (by simp [hc]), hq]; simp [hw, hn]
        refine (submit_ok h hT hin q.o.k _ _ _ _ hc hw I.rq.1 (by have := I.rq.2; omega) I.b1.1 I.b1.2 I.m I.n I.v).mono ?_
        rintro e w' ⟨H, rfl, hA⟩
        refine Or.inr ⟨e1, H, rfl, ?_⟩
        unfold bgM bgX bg1 bg2
        simp only [hq, Bool.false_eq_true, if_false]
        exact hA
  · have e1 : bgE x q = q.chk := by unfold bgE; rw [if_pos hc]
    refine (submit_bad h hT hin q.o.k _ _ _ _ hc).mono ?_
    rintro e w' ⟨rfl, hA⟩
    exact Or.inl ⟨by rw [e1]; exact hc, by rw [e1]; rfl, hA⟩
theorem ask_any' {P : Nat} {x : Px} {b m n1 n2 : Int} {cs : List Comp} {w w0 : World} (h : All (pxL P x b m n1 n2 ++ cs) w) (hT : Tab w0) (hin : inC w0 ∈ cs) (I : PxI x m n1 n2) (q : Wi) (hq : q.ask = true) :
    Calls Tryz.prog 193 #[.pointer (some ⟨P, 0, none⟩), .int .i64 q.who, q.o.val] w (BgPost P x b m n1 n2 q cs) := by
  by_cases hc : q.chk = 0
  · by_cases hk : 6 ≤ q.o.k ∧ q.o.k ≤ 8
    · by_cases hw1 : q.who < 0 ∨ x.n ≤ q.who
      · have e1 : bgE x q = 1 := by unfold bgE; rw [if_neg (by simp [hc]), hq, if_pos rfl, if_neg (fun h => h hk), if_pos hw1]
        refine (ask_arg h hT hin q.o.k _ _ _ _ q.who hc hk hw1).mono ?_
        rintro e w' ⟨rfl, hA⟩
        exact Or.inl ⟨by rw [e1]; decide, by rw [e1], hA⟩
      · cases hw : x.qu.wts with
        | true =>
          have e1 : bgE x q = 141 := by unfold bgE; rw [if_neg (by simp [hc]), hq, if_pos rfl, if_neg (fun h => h hk), if_neg hw1]; simp [hw]
          refine (ask_no h hT hin q.o.k _ _ _ _ q.who hc hk (by omega) (by omega) (E := 141) (by decide) (fun W cs' hW => begQ_busy hW hw _ ⟨_, _, _, _, _, rfl⟩)).mono ?_
          rintro e w' ⟨rfl, hA⟩
          exact Or.inl ⟨by rw [e1]; decide, by rw [e1], hA⟩
        | false =>
          by_cases hn : x.qu.num = 1099511627776
          · have e1 : bgE x q = 142 := by unfold bgE; rw [if_neg (by simp [hc]), hq, if_pos rfl, if_neg (fun h => h hk), if_neg hw1]; simp [hw, hn]
            refine (ask_no h hT hin q.o.k _ _ _ _ q.who hc hk (by omega) (by omega) (E := 142) (by decide) (fun W cs' hW => begQ_end hW hw hn _ ⟨_, _, _, _, _, rfl⟩)).mono ?_
            rintro e w' ⟨rfl, hA⟩
            exact Or.inl ⟨by rw [e1]; decide, by rw [e1], hA⟩
          · have e1 : bgE x q = 0 := by unfold bgE; rw [if_neg (by simp [hc]), hq, if_pos rfl, if_neg (fun h => h hk), if_neg hw1]; simp [hw, hn]
            refine (ask_ok h hT hin q.o.k _ _ _ _ hc hk q.who (by omega) (by omega) hw I.qu.1 (by have := I.qu.2; omega) I.b2.1 I.b2.2 I.m).mono ?_
            rintro e w' ⟨H, rfl, hA⟩
            refine Or.inr ⟨e1, H, rfl, ?_⟩
            unfold bgM bgX bg1 bg2
            simp only [hq, if_true]
            exact hA
    · have e1 : bgE x q = 56 := by unfold bgE; rw [if_neg (by simp [hc]), hq, if_pos rfl, if_pos hk]
      refine (ask_noq h hT hin q.o.k _ _ _ _ q.who hc hk).mono ?_
      rintro e w' ⟨rfl, hA⟩
      exact Or.inl ⟨by rw [e1]; decide, by rw [e1], hA⟩
  · have e1 : bgE x q = q.chk := by unfold bgE; rw [if_pos hc]
    refine (ask_bad h hT hin q.o.k _ _ _ _ q.who hc).mono ?_
    rintro e w' ⟨rfl, hA⟩
    exact Or.inl ⟨by rw [e1]; exact hc, by rw [e1]; rfl, hA⟩
end Go.Proofs.YtdhkdniddjnigaaGreatDoor

namespace Go.Proofs.YtdhkdniddjnigaaGreatDoor
open Go.RowKit
set_option linter.unusedVariables false

def reqV (P : Nat) (q : Wi) : Value := .agg #[ptr P, .int .i64 q.o.k, .string ⟨q.o.nm.toArray⟩, .string ⟨q.o.tx.toArray⟩, .int .i64 (q.o.n : Int), .int .i64 (q.o.m : Int)]
def queV (P : Nat) (q : Wi) : Value := .agg #[ptr P, .int .i64 q.o.k, .string ⟨q.o.nm.toArray⟩, .string ⟨q.o.tx.toArray⟩, .int .i64 (q.o.n : Int), .int .i64 (q.o.m : Int), .int .i64 q.who]
set_option maxRecDepth 1000000 in
theorem reqBegin_any {P : Nat} {x : Px} {b m n1 n2 : Int} {cs : List Comp} {w w0 : World} (h : All (pxL P x b m n1 n2 ++ cs) w) (hT : Tab w0) (hin : inC w0 ∈ cs) (I : PxI x m n1 n2) (q : Wi) (hq : q.ask = false) :
    Calls Tryz.prog 163 #[reqV P q] w (BgPost P x b m n1 n2 q cs) := by
  have C := hid (submit_any (h.alloc (.cells #[ptr P, .int .i64 q.o.k, .string ⟨q.o.nm.toArray⟩, .string ⟨q.o.tx.toArray⟩, .int .i64 (q.o.n : Int), .int .i64 (q.o.m : Int)] 216)) hT hin I q hq)
  unfold OpR.val at C
  unfold reqV
  clear h hT hin I hq
  obtain ⟨BP, hBP⟩ : ∃ BP, Hid (BP = BgPost P x b m n1 n2 q cs) := ⟨_, hid rfl⟩
  have HF : Hid (∀ e w', BP e w' → ∃ v er, e = .returned (.tuple #[v, .int .i64 er]) ∧ ∃ ao n c, v = .slice ao n c) := hid (fun e w' h => by
    rw [hBP.out] at h
    rcases h with ⟨_, rfl, _⟩ | ⟨_, H, rfl, _⟩
    · exact ⟨_, _, rfl, _, _, _, rfl⟩
    · exact ⟨_, _, rfl, _, _, _, rfl⟩)
  rw [← hBP.out] at C ⊢
  clear hBP
  generalize ByteArray.mk q.o.nm.toArray = NM at *
  generalize ByteArray.mk q.o.tx.toArray = TX at *
  generalize q.o.k = k at *
  generalize (q.o.n : Int) = nn at *
  generalize (q.o.m : Int) = mm at *
  go_enter Tryz.func163, Tryz.ntmps163
  go_wp2_with (go_at_call 191; refine C.out.mono ?_; rintro e w' hp; obtain ⟨v, er, rfl, ao, n, c, rfl⟩ := HF.out e w' hp; have HP := hid hp; clear hp)
  exact HP.out
set_option maxRecDepth 1000000 in
theorem queBegin_any {P : Nat} {x : Px} {b m n1 n2 : Int} {cs : List Comp} {w w0 : World} (h : All (pxL P x b m n1 n2 ++ cs) w) (hT : Tab w0) (hin : inC w0 ∈ cs) (I : PxI x m n1 n2) (q : Wi) (hq : q.ask = true) :
    Calls Tryz.prog 165 #[queV P q] w (BgPost P x b m n1 n2 q cs) := by
  have C := hid (ask_any' (h.alloc (.cells #[ptr P, .int .i64 q.o.k, .string ⟨q.o.nm.toArray⟩, .string ⟨q.o.tx.toArray⟩, .int .i64 (q.o.n : Int), .int .i64 (q.o.m : Int), .int .i64 q.who] 218)) hT hin I q hq)
  unfold OpR.val at C
  unfold queV
  clear h hT hin I hq
  obtain ⟨BP, hBP⟩ : ∃ BP, Hid (BP = BgPost P x b m n1 n2 q cs) := ⟨_, hid rfl⟩
  have HF : Hid (∀ e w', BP e w' → ∃ v er, e = .returned (.tuple #[v, .int .i64 er]) ∧ ∃ ao n c, v = .slice ao n c) := hid (fun e w' h => by
    rw [hBP.out] at h
    rcases h with ⟨_, rfl, _⟩ | ⟨_, H, rfl, _⟩
    · exact ⟨_, _, rfl, _, _, _, rfl⟩
    · exact ⟨_, _, rfl, _, _, _, rfl⟩)
  rw [← hBP.out] at C ⊢
  clear hBP
  generalize ByteArray.mk q.o.nm.toArray = NM at *
  generalize ByteArray.mk q.o.tx.toArray = TX at *
  generalize q.o.k = k at *
  generalize q.who = who at *
  generalize (q.o.n : Int) = nn at *
  generalize (q.o.m : Int) = mm at *
  go_enter Tryz.func165, Tryz.ntmps165
  go_wp2_with (go_at_call 193; refine C.out.mono ?_; rintro e w' hp; obtain ⟨v, er, rfl, ao, n, c, rfl⟩ := HF.out e w' hp; have HP := hid hp; clear hp)
  exact HP.out
end Go.Proofs.YtdhkdniddjnigaaGreatDoor

namespace Go.Proofs.YtdhkdniddjnigaaGreatDoor
open Go.RowKit
set_option linter.unusedVariables false

/-- Cells that are written one behind the other. -/
def setAll (vs : List Value) (o : Nat) : List Value → List Value
  | [] => vs
  | u :: us => setAll (vs.set o u) (o + 1) us
theorem setAll_pre (a : List Value) : ∀ (us vs : List Value) (o : Nat), setAll (a ++ vs) (a.length + o) us = a ++ setAll vs o us
  | [], vs, o => rfl
  | u :: us, vs, o => by
    simp only [setAll]
    rw [List.set_append_right _ _ (by omega), Nat.add_sub_cancel_left, Nat.add_assoc]
    exact setAll_pre a us (vs.set o u) (o + 1)
theorem setAll_head : ∀ (us old rest : List Value), us.length = old.length → setAll (old ++ rest) 0 us = us ++ rest
  | [], [], rest, _ => rfl
  | u :: us, v :: old, rest, h => by
    simp only [setAll, List.cons_append, List.set_cons_zero]
    have := setAll_pre [u] us (old ++ rest) 0
    simp only [List.cons_append, List.nil_append, List.length_cons, List.length_nil, Nat.zero_add, Nat.add_zero] at this
    rw [Nat.zero_add, this, setAll_head us old rest (by simpa using h)]
theorem setAll_mid (a old us rest : List Value) (o : Nat) (ho : a.length = o) (hl : us.length = old.length) : setAll (a ++ (old ++ rest)) o us = a ++ (us ++ rest) := by
  subst ho
  have := setAll_pre a us (old ++ rest) 0
  rw [Nat.add_zero] at this
  rw [this, setAll_head us old rest hl]
theorem All.rowCut {e : TypeId} {size g n m c : Nat} {vs us : List Value} {cs : List Comp} {w : World} (h : All (rowC e size (.slice (some ⟨g, 0, none⟩) n c) n (vs ++ us) :: cs) w) (hm : m ≤ n) (hv : vs.length = m * size) : All (rowC e size (.slice (some ⟨g, 0, none⟩) m c) m vs :: cs) w := by
  have ho : w.ownsRow 0 e size (.slice (some ⟨g, 0, none⟩) n c) n (vs ++ us) := h.1.2.1
  refine ⟨⟨rowC_good _ _ _ _ _, ⟨hv, ?_⟩, fun k hk => h.1.2.2 k hk⟩, fun d hd k hk => h.2.1 d hd k hk, h.2.2⟩
  rcases ho.2 with ⟨e1, _⟩ | ⟨g', cap, cur, e1, h0, hg, hn, hmx, hcs, ht⟩
  · cases e1
  · simp only [Value.slice.injEq, Option.some.injEq, Addr.mk.injEq, and_true] at e1
    obtain ⟨rfl, -, rfl⟩ := e1
    refine Or.inr ⟨g, c, cur, rfl, h0, hg, by omega, hmx, hcs, ?_⟩
    have := congrArg (List.take (m * size)) ht
    rw [List.take_take, Nat.min_eq_left (Nat.mul_le_mul_right _ hm), show List.take (m * size) (vs ++ us) = vs by rw [← hv, List.take_left]] at this
    exact this

/-- One cell of a row. -/
theorem owns_set {e : TypeId} {size g n c j : Nat} {vs : List Value} {u : Value} {w : World} (h : w.ownsRow 0 e size (.slice (some ⟨g, 0, none⟩) n c) n vs) : (w.setCell ⟨g, j, none⟩ u).ownsRow 0 e size (.slice (some ⟨g, 0, none⟩) n c) n (vs.set j u) := by
  refine ⟨by rw [List.length_set]; exact h.1, ?_⟩
  rcases h.2 with ⟨e1, _⟩ | ⟨g', cap, cur, e1, h0, hg, hn, hm, hcs, ht⟩
  · cases e1
  · simp only [Value.slice.injEq, Option.some.injEq, Addr.mk.injEq, and_true] at e1
    obtain ⟨rfl, _, rfl⟩ := e1
    refine Or.inr ⟨g, c, cur.setIfInBounds j u, rfl, h0, heap_setCell_same hg u, hn, hm, by simpa using hcs, ?_⟩
    rw [Array.toList_setIfInBounds, List.take_set, ht]
theorem All.rowSet {e : TypeId} {size g n c : Nat} {vs : List Value} {cs : List Comp} {w : World} (h : All (rowC e size (.slice (some ⟨g, 0, none⟩) n c) n vs :: cs) w) (j : Nat) (u : Value) : All (rowC e size (.slice (some ⟨g, 0, none⟩) n c) n (vs.set j u) :: cs) (w.setCell ⟨g, j, none⟩ u) := by
  refine h.turn ?_ (rowC_good _ _ _ _ _) (owns_set h.1.2.1) (fun k hk => Or.inl hk) (fun k hk => ?_)
  · exact (Fr.setCell w g j u).mono (fun k hk => by simpa [rowC, Value.ownBlock, eq_comm] using hk)
  · have := h.1.2.2 k hk
    simpa [World.setCell] using this
theorem All.rowSets {e : TypeId} {size g n c : Nat} {cs : List Comp} : ∀ (us vs : List Value) (w : World) (o : Nat), All (rowC e size (.slice (some ⟨g, 0, none⟩) n c) n vs :: cs) w → All (rowC e size (.slice (some ⟨g, 0, none⟩) n c) n (setAll vs o us) :: cs) (w.setCells g o us)
  | [], vs, w, o, h => h
  | u :: us, vs, w, o, h => by
    rw [World.setCells]
    exact All.rowSets us (vs.set o u) _ (o + 1) (h.rowSet o u)

theorem Tryz.info136 : (Tryz.prog.info? 136).map (fun i => (i.zero, i.size, i.bytes)) = some (some (.agg #[.int .i64 0, .nilFunc]), 2, 16) := by kernel_rfl
def zW : List Value := [.int .i64 0, .nilFunc]
theorem clear_wi {w : World} (b o c : Nat) (ty : TypeId) (hc : ∀ j, j < 2 → (w.cell? ⟨b, o + j, none⟩).isSome = true) (hf : ∀ j, j < 2 → w.frozen? ⟨b, o + j, none⟩ = false) :
    (Builtin.clear_ #[75] ty #[.slice (some ⟨b, o, none⟩) 1 c]).run Tryz.prog w = .ok (.tuple #[]) (w.setCells b o zW) := by
  have hv : ∀ w, (zeroValue 136).run Tryz.prog w = .ok (.agg zW.toArray) w := Tryz.zeroValue136
  have hzc : (Builtin.zeroCells (Value.agg zW.toArray).cells 1).toList = zW := by kernel_rfl
  have hst := run_storeCells_cells (P := Tryz.prog) b o zW 0 w (by rw [show zW.length = 2 from rfl]; simpa using hc) (by rw [show zW.length = 2 from rfl]; simpa using hf) (by simp [zW, Value.oneCell'])
  simp only [Nat.add_zero] at hst
  simp [Builtin.clear_, run_underlying Tryz.underlying75, hv, hzc, hst]
theorem rowC_cells {w : World} {g c n : Nat} {vs : List Value} {cs : List Comp} (h : All (rowC 136 2 (.slice (some ⟨g, 0, none⟩) n c) n vs :: cs) w) : (∀ j u, vs[j]? = some u → w.cell? ⟨g, j, none⟩ = some u) ∧ (∀ j, j < n * 2 → (w.cell? ⟨g, j, none⟩).isSome = true ∧ w.frozen? ⟨g, j, none⟩ = false) ∧ vs.length = n * 2 ∧ n ≤ c ∧ c ≤ maxLen := by
  have ho : w.ownsRow 0 136 2 (.slice (some ⟨g, 0, none⟩) n c) n vs := h.1.2.1
  have hl := ho.1
  have hcap := row_cap ho
  refine ⟨fun j u hu => ?_, fun j hj => ?_, hl, hcap.2.1, hcap.2.2⟩
  · obtain ⟨g', e, _, hc⟩ := row_at ho hu
    simp only [Option.some.injEq, Addr.mk.injEq, and_true] at e
    subst e
    exact hc
  · rcases ho.2 with ⟨e1, _⟩ | ⟨g', cap, cur, e1, h0, hg, hn, hmx, hcs, ht⟩
    · cases e1
    · simp only [Value.slice.injEq, Option.some.injEq, Addr.mk.injEq, and_true] at e1
      obtain ⟨rfl, -, rfl⟩ := e1
      refine ⟨?_, free_at hg j⟩
      rw [cell_at hg, Array.getElem?_eq_getElem (by rw [hcs]; omega)]
      rfl
set_option maxHeartbeats 1600000 in
set_option maxRecDepth 1000000 in
/-- slices.Delete of the first one. -/
theorem del_first {g c n : Nat} {a b : Value} {us : List Value} {cs : List Comp} {w : World} (h : All (rowC 136 2 (.slice (some ⟨g, 0, none⟩) n c) n (a :: b :: us) :: cs) w) (hn : n ≤ 1024) (hone : ∀ u ∈ us, u.oneCell' = true) :
    Calls Tryz.prog 88 #[.slice (some ⟨g, 0, none⟩) n c, .int .i64 0, .int .i64 1] w fun e w' => e = .returned (.slice (some ⟨g, 0, none⟩) (n - 1) c) ∧ All (rowC 136 2 (.slice (some ⟨g, 0, none⟩) (n - 1) c) (n - 1) us :: cs) w' := by
  obtain ⟨i0, hi0, hz0, hz1, hz2⟩ := info_parts Tryz.info136
  obtain ⟨hcl, hth, hlen, hnc, hcm⟩ := rowC_cells h.drew
  simp only [List.length_cons] at hlen
  have hul : us.length = (n - 1) * 2 := by omega
  have hn1 : 1 ≤ n := by omega
  have A1 := All.rowSets us _ _ 0 h.drew
  have hspl : a :: b :: us = (a :: b :: us).take us.length ++ (a :: b :: us).drop us.length := (List.take_append_drop _ _).symm
  have hrl : ((a :: b :: us).drop us.length).length = 2 := by rw [List.length_drop]; simp only [List.length_cons]; omega
  have e1 : setAll (a :: b :: us) 0 us = us ++ (a :: b :: us).drop us.length := by
    conv => lhs; rw [hspl]
    exact setAll_head us _ _ (by rw [List.length_take]; simp only [List.length_cons]; omega)
  rw [e1] at A1
  obtain ⟨hcl2, hth2, _⟩ := rowC_cells A1
  have e2 : setAll (us ++ (a :: b :: us).drop us.length) ((n - 1) * 2) zW = us ++ zW := by
    have := setAll_mid us ((a :: b :: us).drop us.length) zW [] ((n - 1) * 2) hul (by rw [hrl]; rfl)
    simpa using this
  have A2 := All.rowSets zW _ _ ((n - 1) * 2) A1
  rw [e2] at A2
  have A3 := hid (A2.rowCut (m := n - 1) (by omega) hul)
  have hcr : ∀ ty, (Builtin.clear_ #[75] ty #[.slice (some ⟨g, (n - 1) * 2, none⟩) 1 (c - (n - 1))]).run Tryz.prog (w.drew.setCells g 0 us) = .ok (.tuple #[]) ((w.drew.setCells g 0 us).setCells g ((n - 1) * 2) zW) := fun ty => clear_wi _ _ _ ty (fun j hj => (hth2 _ (by omega)).1) (fun j hj => (hth2 _ (by omega)).2)
  have hR : ∃ A : Addr, (if c = 1 then some (⟨g, 0, none⟩ : Addr) else some ⟨g, 2, none⟩) = some A ∧ (Builtin.append_ #[75, 75] 75 #[.slice (some ⟨g, 0, none⟩) 0 c, .slice (some A) (n - 1) (c - 1)]).run Tryz.prog w.drew = .ok (.slice (some ⟨g, 0, none⟩) (n - 1) c) (w.drew.setCells g 0 us) := by
    have key : ∀ A : Addr, (∀ j u, us[j]? = some u → w.drew.cell? (A.add j) = some u) → (Builtin.append_ #[75, 75] 75 #[.slice (some ⟨g, 0, none⟩) 0 c, .slice (some A) (n - 1) (c - 1)]).run Tryz.prog w.drew = .ok (.slice (some ⟨g, 0, none⟩) (n - 1) c) (w.drew.setCells g 0 us) := by
      intro A hA
      have := run_append_room_cells (P := Tryz.prog) w.drew 75 75 136 i0 Tryz.underlying75 hi0 g 0 0 c A (n - 1) (c - 1) us (by rw [hz1]; exact hul) hA hone (by omega)
        (fun j hj => by simpa using (hth j (by omega)).1)
        (fun j hj => by simpa using (hth j (by omega)).2)
      simpa using this
    by_cases hcc : c = 1
    · refine ⟨⟨g, 0, none⟩, by rw [if_pos hcc], key _ (fun j u hu => ?_)⟩
      have : us = [] := List.length_eq_zero_iff.1 (by omega)
      rw [this] at hu
      simp at hu
    · refine ⟨⟨g, 2, none⟩, by rw [if_neg hcc], key _ (fun j u hu => ?_)⟩
      rw [Addr.add_lit, show 2 + j = j + 2 by omega]
      exact hcl (j + 2) u (by simpa using hu)
  obtain ⟨A, hA, hrun⟩ := hR
  have HR := hid hrun
  have HC := hid hcr
  unfold maxLen at hcm
  clear A1 A2 e1 e2 hcl hth hcl2 hth2 hspl hrl h hone hrun hlen hul hcr
  generalize w.drew.setCells g 0 us = w1 at *
  generalize w1.setCells g ((n - 1) * 2) zW = w2 at *
  have h2 : (n : Int) ≤ (c : Int) := by omega
  have h3 : ¬ n = 0 := by omega
  have h4 : ¬ c = n - 1 := by omega
  have h5 : n - (n - 1) = 1 := by omega
  have h6 : ((n - 1 : Nat) : Int) ≤ (n : Int) := by omega
  have h7 : (1 : Int) ≤ (n : Int) := by omega
  have h8 : (1 : Int) ≤ (c : Int) := by omega
  have HC := HC.out
  go_enter Tryz.func88, Tryz.ntmps88
  go_wp2_with fail
  go_region_law (refine step_append_run (by rfl) _ _ 75 (by rfl) _ _ _ _ (by rfl) (by rfl) HR.out ?_)
  all_goals (go_wp2; go_ret; exact ⟨rfl, A3.out⟩)
end Go.Proofs.YtdhkdniddjnigaaGreatDoor
