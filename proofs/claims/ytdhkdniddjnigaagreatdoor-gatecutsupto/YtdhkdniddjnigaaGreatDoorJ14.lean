import Derived.Test.YtdhkdniddjnigaaGreatDoorJ13
import Derived.Lib.SliceRun
import Derived.Laws.BitsAllLaws
namespace Go.Proofs.YtdhkdniddjnigaaGreatDoor
open Go.RowKit
set_option linter.unusedVariables false

/-- What stands in the memory besides. -/
structure Evs (cs : List Comp) : Prop where
  V : ∀ W, All cs W → Vars W
  T : ∀ W, All cs W → Tab W
  W : ∀ W, All cs W → Wf W
  M : ∀ W, All cs W → ∃ m, W.cell? ⟨0, 0, none⟩ = some (.int .i64 m)
  I : ∃ w0, inC w0 ∈ cs ∧ Tab w0
theorem Evs.more {cs ds : List Comp} (h : Evs cs) (hp : ∀ W, All ds W → All cs W) (hi : ∀ c ∈ cs, c ∈ ds) : Evs ds :=
  ⟨fun W k => h.V W (hp W k), fun W k => h.T W (hp W k), fun W k => h.W W (hp W k), fun W k => h.M W (hp W k), by obtain ⟨w0, h1, h2⟩ := h.I; exact ⟨w0, hi _ h1, h2⟩⟩
theorem Evs.cons {cs : List Comp} (h : Evs cs) (c : Comp) : Evs (c :: cs) := h.more (fun W k => k.tail) (fun d hd => List.mem_cons_of_mem _ hd)
theorem All.app {xs cs : List Comp} {w : World} (h : All (xs ++ cs) w) : All cs w := by
  induction xs with
  | nil => exact h
  | cons x xs ih => exact ih h.tail
theorem Evs.app {cs : List Comp} (h : Evs cs) (xs : List Comp) : Evs (xs ++ cs) := h.more (fun W k => k.app) (fun d hd => List.mem_append_right _ hd)

theorem readM_eq (tx : List UInt8) (long : Bool) : readM tx long = if (wdsM tx long).2 ≠ 0 then .err ((wdsM tx long).2 : Int) else wishR (wdsM tx long).1 := by
  unfold readM wdsM
  cases long <;> rfl
theorem splitW_wsz (l : List UInt8) : wsz (splitW l).ws ≤ 16384 := by
  unfold splitW
  split
  · simp [Ans.ws, wsz]
  · have := runW_wsz l .ahead [] 0
    simp only [St.held, wsz, List.length_nil, List.map_nil, List.sum_nil] at this ⊢
    omega
theorem wds_wsz (tx : List UInt8) (long : Bool) : wsz (wdsM tx long).1 ≤ 16384 := by
  unfold wdsM
  cases long
  · exact splitW_wsz tx
  · simp [wsz]
theorem wsz_mem {ws : Ws} {x : List UInt8} (h : x ∈ ws) : x.length ≤ wsz ws := by
  unfold wsz
  induction ws with
  | nil => cases h
  | cons y r ih =>
    simp only [List.map_cons, List.sum_cons, List.length_cons]
    rcases List.mem_cons.1 h with rfl | h
    · omega
    · have := ih h; omega
set_option maxHeartbeats 1600000 in
set_option maxRecDepth 1000000 in
/-- What a line says. -/
theorem read_gt {G P : Nat} {s : Gs} {tl : List UInt8} {b m : Int} {cs : List Comp} {w : World} {txv wsv tov : Value} (A : All (gtL G P s tl b m txv wsv tov ++ cs) w) (hs : s.ok) (E : Evs cs) :
    Calls Tryz.prog 53 #[.pointer (some ⟨G, 3, none⟩), .agg #[.int .i64 s.no, txv, .bool s.long]] w fun e w' => e = .returned (rdG P (readM s.tx s.long)) ∧ All (gtL G P s tl b m txv wsv tov ++ cs) w' := by
  obtain ⟨H, hH⟩ : ∃ H, Hid (H = w.heap.size) := ⟨_, hid rfl⟩
  have A0 := hid (A.addBlk [.int .i64 s.no, txv, .bool s.long] 74)
  rw [← hH.out] at A0
  have WC := hid (words_any (B := H) (v := txv) (tx := s.tx) (long := s.long) A0.out (by rw [cell_at A0.out.1.2.1]; rfl) (by rw [cell_at A0.out.1.2.1]; rfl) (reads_own A0.out.tail.tail) (by have := hs.2; omega))
  rw [readM_eq]
  have hz := wds_wsz s.tx s.long
  have HC3 : Hid (∀ X W, All (X ++ (gtL G P s tl b m txv wsv tov ++ cs)) W → W.cell? ⟨G, 3, none⟩ = some (ptr P)) := hid (fun X W h => Gt.cell h.app 3)
  have E' := E.app (gtL G P s tl b m txv wsv tov)
  clear A hs E
  generalize wdsM s.tx s.long = q at *
  obtain ⟨ws, er⟩ := q
  dsimp only at WC hz ⊢
  obtain ⟨CS, hCS⟩ : ∃ CS, Hid (CS = gtL G P s tl b m txv wsv tov ++ cs) := ⟨_, hid rfl⟩
  rw [← hCS.out] at A0 WC HC3 E' ⊢
  clear hCS
  by_cases he : er ≠ 0
  · rw [if_pos he]
    have he' : (((er : Int)) != 0) = true := by simp; omega
    unfold rdG
    clear he hz
    go_enter Tryz.func53, Tryz.ntmps53
    go_upto_region 1 with fail
    simp only [← hH.out]
    generalize w.alloc (.cells #[.int .i64 s.no, txv, .bool s.long] 74) = w1 at *
    go_wp2_with (go_at_call 86; refine WC.out.mono ?_; rintro e w2 ⟨v', rfl, A2⟩; have A3 := hid A2.tail.tail; obtain ⟨ao', c', rfl⟩ := owns_form A2.1.2.1; clear A2)
    go_ret2
    exact ⟨rfl, A3.out⟩
  · have he0 : er = 0 := by omega
    subst he0
    rw [if_neg he]
    clear he
    cases ws with
    | nil =>
      unfold wishR rdG
      dsimp only
      clear hz
      go_enter Tryz.func53, Tryz.ntmps53
      go_upto_region 1 with fail
      simp only [← hH.out]
      generalize w.alloc (.cells #[.int .i64 s.no, txv, .bool s.long] 74) = w1 at *
      go_wp2_with (go_at_call 86; refine WC.out.mono ?_; rintro e w2 ⟨v', rfl, A2⟩; have A3 := hid A2.tail.tail; obtain ⟨ao', c', rfl⟩ := owns_form A2.1.2.1; simp only [txW, List.map_nil, List.length_nil]; clear A2)
      go_ret2
      exact ⟨rfl, A3.out⟩
    | cons x r =>
      have RW : Hid (∀ v' W, All (ownC 9 v' (txW (x :: r)) :: blkC H [.int .i64 s.no, txv, .bool s.long] 74 :: CS) W → Calls Tryz.prog 87 #[.pointer (some ⟨P, 0, none⟩), v'] W fun e w' => e = .returned (rdG P (wishR (x :: r))) ∧ All (ownC 9 v' (txW (x :: r)) :: blkC H [.int .i64 s.no, txv, .bool s.long] 74 :: CS) w') := hid (fun v' W h => by
        have E2 := (E'.cons (blkC H [.int .i64 s.no, txv, .bool s.long] 74)).cons (ownC 9 v' (txW (x :: r)))
        exact readWish_any h (fun W' h' => rt_own h') E2.V E2.T E2.W (by have : (x :: r).length ≤ wsz (x :: r) := by (unfold wsz; omega)
                                                                         omega) (fun y hy => by have := wsz_mem hy; omega))
      obtain ⟨va, vb, hq⟩ : ∃ va vb, rdG P (wishR (x :: r)) = .tuple #[va, .int .i64 vb] := by
        generalize wishR (x :: r) = qq
        cases qq <;> exact ⟨_, _, rfl⟩
      rw [hq] at RW ⊢
      have hn0 : (((x :: r).length : Int) == 0) = false := by simp; omega
      have hlen : (txW (x :: r)).length = (x :: r).length := txW_length _
      clear hz hq
      go_enter Tryz.func53, Tryz.ntmps53
      go_upto_region 1 with fail
      simp only [← hH.out]
      generalize w.alloc (.cells #[.int .i64 s.no, txv, .bool s.long] 74) = w1 at *
      go_wp2_with fail
      refine WC.out.mono ?_
      rintro e w2 ⟨v', rfl, A2⟩
      obtain ⟨ao', c', rfl⟩ := owns_form A2.1.2.1
      simp only [hlen] at A2 ⊢
      have RW2 := hid (RW.out _ _ A2)
      have c3 := HC3.out [ownC 9 (.slice ao' (x :: r).length c') (txW (x :: r)), blkC H [.int .i64 s.no, txv, .bool s.long] 74] w2 A2
      clear A2 RW WC HC3 hlen
      generalize (x :: r).length = nl at *
      go_wp2_with (go_at_call 87; refine RW2.out.mono ?_; rintro e w3 ⟨rfl, A4⟩; have A5 := hid A4.tail.tail; clear A4)
      go_ret2
      exact ⟨rfl, A5.out⟩
end Go.Proofs.YtdhkdniddjnigaaGreatDoor

namespace Go.Proofs.YtdhkdniddjnigaaGreatDoor
open Go.RowKit
set_option linter.unusedVariables false

set_option maxRecDepth 1000000 in
/-- Ask of a replica that is not there. -/
theorem ask_arg {P : Nat} {x : Px} {b m n1 n2 : Int} {cs : List Comp} {w w0 : World} (h : All (pxL P x b m n1 n2 ++ cs) w) (hT : Tab w0) (hin : inC w0 ∈ cs) (k : Int) (nm tx : ByteArray) (a d : Int) (who : Int) (hc : chkA k nm.size tx.size a d = 0) (hk : 6 ≤ k ∧ k ≤ 8) (hw : who < 0 ∨ x.n ≤ who) : Calls Tryz.prog 193 #[.pointer (some ⟨P, 0, none⟩), .int .i64 who, opV k nm tx a d] w fun e w' => e = .returned (.tuple #[.slice none 0 0, .int .i64 1]) ∧ All (pxL P x b m n1 n2 ++ cs) w' := by
  obtain ⟨H, hH⟩ : ∃ H, Hid (H = w.heap.size) := ⟨_, hid rfl⟩
  have A1 := hid (h.addBlk [.int .i64 k, .string nm, .string tx, .int .i64 a, .int .i64 d] 42)
  rw [← hH.out] at A1
  have A1 := hid (A1.out.perm (List.perm_middle (l₁ := pxL P x b m n1 n2)).symm)
  have C : Hid (Calls Tryz.prog 169 #[opV k nm tx a d] (w.alloc (.cells #[.int .i64 k, .string nm, .string tx, .int .i64 a, .int .i64 d] 42)) fun e w' => e = .returned (.int .i64 0) ∧ Below (w.alloc (.cells #[.int .i64 k, .string nm, .string tx, .int .i64 a, .int .i64 d] 42)).heap.size (w.alloc (.cells #[.int .i64 k, .string nm, .string tx, .int .i64 a, .int .i64 d] 42)) w') := hid (by
    have := check_any (hT.below (A1.out.into (List.mem_append_right _ (List.mem_cons_of_mem _ hin)))) k nm tx a d
    rw [hc] at this
    exact this)
  have C31 : Hid (∀ W : World, Calls Tryz.prog 170 #[.int .i64 k] W fun e w' => e = .returned (.bool true) ∧ w' = W) := hid (fun W => by have := query_any (w := W) k; rw [decide_eq_true hk] at this; exact this)
  have hw' : (0 ≤ who ∧ decide (who < 0) = false ∧ decide (x.n ≤ who) = true ∧ x.n ≤ who) ∨ decide (who < 0) = true := by
    by_cases h0 : who < 0
    · exact Or.inr (decide_eq_true h0)
    · exact Or.inl ⟨by omega, decide_eq_false h0, decide_eq_true (by omega), by omega⟩
  clear h hT hin hc hk hw
  rcases hw' with ⟨h0, e1, e2, h2⟩ | e1
  all_goals
    go_enter Tryz.func193, Tryz.ntmps193
    go_wp2_with fail
    refine C.out.mono ?_
    rintro e w1 ⟨rfl, BB⟩
    have A2 : Hid (All (pxL P x b m n1 n2 ++ (blkC H [.int .i64 k, .string nm, .string tx, .int .i64 a, .int .i64 d] 42 :: cs)) w1) := hid (A1.out.later BB)
    simp only [← hH.out]
    clear BB C A1
    have SF : Hid (∀ W, All (pxL P x b m n1 n2 ++ (blkC H [.int .i64 k, .string nm, .string tx, .int .i64 a, .int .i64 d] 42 :: cs)) W → W.cell? ⟨H, 0, none⟩ = some (.int .i64 k) ∧ W.cell? ⟨H, 1, none⟩ = some (.string nm) ∧ W.cell? ⟨H, 2, none⟩ = some (.string tx) ∧ W.cell? ⟨H, 3, none⟩ = some (.int .i64 a) ∧ W.cell? ⟨H, 4, none⟩ = some (.int .i64 d)) := hid (fun W hW => opCells (hW.blk (by simp)))
    have k0 : w1.cell? ⟨H, 0, none⟩ = some (.int .i64 k) := (SF.out _ A2.out).1
    have c0 : w1.cell? ⟨P, 0, none⟩ = some (.int .i64 x.n) := by rw [cell_at A2.out.px]; rfl
    go_wp2_with (go_at_call 170; refine (C31.out _).mono ?_; rintro e w' ⟨rfl, rfl⟩)
    go_ret2
    exact ⟨rfl, (A2.out.perm (List.perm_middle (l₁ := pxL P x b m n1 n2))).tail⟩

/-- What is known of a client. -/
structure PxI (x : Px) (m n1 n2 : Int) : Prop where
  n : x.n = 3 ∨ x.n = 5 ∨ x.n = 7
  v : 0 ≤ x.view
  rq : 0 ≤ x.rq.num ∧ x.rq.num ≤ 1099511627776
  qu : 0 ≤ x.qu.num ∧ x.qu.num ≤ 1099511627776
  b1 : 1 ≤ n1 ∧ n1 ≤ m
  b2 : 1 ≤ n2 ∧ n2 ≤ m
  m : m ≤ 1024
def bg1 (m n1 : Int) (w : Wi) : Int := if w.ask then n1 else min (2 * n1) m
def bg2 (m n2 : Int) (w : Wi) : Int := if w.ask then min (2 * n2) m else n2
/-- What comes of a wish that begins. -/
def BgPost (P : Nat) (x : Px) (b m n1 n2 : Int) (q : Wi) (cs : List Comp) (e : Ending) (w' : World) : Prop :=
  (bgE x q ≠ 0 ∧ e = .returned (.tuple #[.slice none 0 0, .int .i64 (bgE x q)]) ∧ All (pxL P x b m n1 n2 ++ cs) w') ∨
  (bgE x q = 0 ∧ ∃ H, e = .returned (.tuple #[.slice (some ⟨H, 0, none⟩) 1 1, .int .i64 0]) ∧ All (blkC H (bgM x q n1 n2).cells 51 :: (pxL P (bgX x q n1 n2) b m (bg1 m n1 q) (bg2 m n2 q) ++ cs)) w')

theorem submit_any {P : Nat} {x : Px} {b m n1 n2 : Int} {cs : List Comp} {w w0 : World} (h : All (pxL P x b m n1 n2 ++ cs) w) (hT : Tab w0) (hin : inC w0 ∈ cs) (I : PxI x m n1 n2) (q : Wi) (hq : q.ask = false) :
    Calls Tryz.prog 191 #[.pointer (some ⟨P, 0, none⟩), q.o.val] w (BgPost P x b m n1 n2 q cs) := by
  by_cases hc : q.chk = 0
  · cases hw : x.rq.wts with
    | true =>
      have e1 : bgE x q = 141 := by unfold bgE; rw [if_neg (by simp [hc]), hq]; simp [hw]
      refine (submit_no h hT hin q.o.k _ _ _ _ hc (E := 141) (by decide) (fun W cs' hW => begR_busy hW hw _ ⟨_, _, _, _, _, rfl⟩)).mono ?_
      rintro e w' ⟨rfl, hA⟩
      exact Or.inl ⟨by rw [e1]; decide, by rw [e1], hA⟩
    | false =>
      by_cases hn : x.rq.num = 1099511627776
      · have e1 : bgE x q = 142 := by unfold bgE; rw [if_neg (by simp [hc]), hq]; simp [hw, hn]
        refine (submit_no h hT hin q.o.k _ _ _ _ hc (E := 142) (by decide) (fun W cs' hW => begR_end hW hw hn _ ⟨_, _, _, _, _, rfl⟩)).mono ?_
        rintro e w' ⟨rfl, hA⟩
        exact Or.inl ⟨by rw [e1]; decide, by rw [e1], hA⟩
      · have e1 : bgE x q = 0 := by unfold bgE; rw [if_neg (by simp [hc]), hq]; simp [hw, hn]
        refine (submit_ok h hT hin q.o.k _ _ _ _ hc hw I.rq.1 (by have := I.rq.2; omega) I.b1.1 I.b1.2 I.m I.n I.v).mono ?_
        rintro e w' ⟨H, rfl, hA⟩
        refine Or.inr ⟨e1, H, rfl, ?_⟩
        unfold bgM bgX bg1 bg2
        simp only [hq, Bool.false_eq_true, if_false]
        exact hA
  · have e1 : bgE x q = q.chk := by unfold bgE; rw [if_pos hc]
    refine (submit_bad h hT hin q.o.k _ _ _ _ hc).mono ?_
    rintro e w' ⟨rfl, hA⟩
    exact Or.inl ⟨by rw [e1]; exact hc, by rw [e1]; rfl, hA⟩
theorem ask_any' {P : Nat} {x : Px} {b m n1 n2 : Int} {cs : List Comp} {w w0 : World} (h : All (pxL P x b m n1 n2 ++ cs) w) (hT : Tab w0) (hin : inC w0 ∈ cs) (I : PxI x m n1 n2) (q : Wi) (hq : q.ask = true) :
    Calls Tryz.prog 193 #[.pointer (some ⟨P, 0, none⟩), .int .i64 q.who, q.o.val] w (BgPost P x b m n1 n2 q cs) := by
  by_cases hc : q.chk = 0
  · by_cases hk : 6 ≤ q.o.k ∧ q.o.k ≤ 8
    · by_cases hw1 : q.who < 0 ∨ x.n ≤ q.who
      · have e1 : bgE x q = 1 := by unfold bgE; rw [if_neg (by simp [hc]), hq, if_pos rfl, if_neg (fun h => h hk), if_pos hw1]
        refine (ask_arg h hT hin q.o.k _ _ _ _ q.who hc hk hw1).mono ?_
        rintro e w' ⟨rfl, hA⟩
        exact Or.inl ⟨by rw [e1]; decide, by rw [e1], hA⟩
      · cases hw : x.qu.wts with
        | true =>
          have e1 : bgE x q = 141 := by unfold bgE; rw [if_neg (by simp [hc]), hq, if_pos rfl, if_neg (fun h => h hk), if_neg hw1]; simp [hw]
          refine (ask_no h hT hin q.o.k _ _ _ _ q.who hc hk (by omega) (by omega) (E := 141) (by decide) (fun W cs' hW => begQ_busy hW hw _ ⟨_, _, _, _, _, rfl⟩)).mono ?_
          rintro e w' ⟨rfl, hA⟩
          exact Or.inl ⟨by rw [e1]; decide, by rw [e1], hA⟩
        | false =>
          by_cases hn : x.qu.num = 1099511627776
          · have e1 : bgE x q = 142 := by unfold bgE; rw [if_neg (by simp [hc]), hq, if_pos rfl, if_neg (fun h => h hk), if_neg hw1]; simp [hw, hn]
            refine (ask_no h hT hin q.o.k _ _ _ _ q.who hc hk (by omega) (by omega) (E := 142) (by decide) (fun W cs' hW => begQ_end hW hw hn _ ⟨_, _, _, _, _, rfl⟩)).mono ?_
            rintro e w' ⟨rfl, hA⟩
            exact Or.inl ⟨by rw [e1]; decide, by rw [e1], hA⟩
          · have e1 : bgE x q = 0 := by unfold bgE; rw [if_neg (by simp [hc]), hq, if_pos rfl, if_neg (fun h => h hk), if_neg hw1]; simp [hw, hn]
            refine (ask_ok h hT hin q.o.k _ _ _ _ hc hk q.who (by omega) (by omega) hw I.qu.1 (by have := I.qu.2; omega) I.b2.1 I.b2.2 I.m).mono ?_
            rintro e w' ⟨H, rfl, hA⟩
            refine Or.inr ⟨e1, H, rfl, ?_⟩
            unfold bgM bgX bg1 bg2
            simp only [hq, if_true]
            exact hA
    · have e1 : bgE x q = 56 := by unfold bgE; rw [if_neg (by simp [hc]), hq, if_pos rfl, if_pos hk]
      refine (ask_noq h hT hin q.o.k _ _ _ _ q.who hc hk).mono ?_
      rintro e w' ⟨rfl, hA⟩
      exact Or.inl ⟨by rw [e1]; decide, by rw [e1], hA⟩
  · have e1 : bgE x q = q.chk := by unfold bgE; rw [if_pos hc]
    refine (ask_bad h hT hin q.o.k _ _ _ _ q.who hc).mono ?_
    rintro e w' ⟨rfl, hA⟩
    exact Or.inl ⟨by rw [e1]; exact hc, by rw [e1]; rfl, hA⟩
end Go.Proofs.YtdhkdniddjnigaaGreatDoor

namespace Go.Proofs.YtdhkdniddjnigaaGreatDoor
open Go.RowKit
set_option linter.unusedVariables false

def reqV (P : Nat) (q : Wi) : Value := .agg #[ptr P, .int .i64 q.o.k, .string ⟨q.o.nm.toArray⟩, .string ⟨q.o.tx.toArray⟩, .int .i64 (q.o.n : Int), .int .i64 (q.o.m : Int)]
def queV (P : Nat) (q : Wi) : Value := .agg #[ptr P, .int .i64 q.o.k, .string ⟨q.o.nm.toArray⟩, .string ⟨q.o.tx.toArray⟩, .int .i64 (q.o.n : Int), .int .i64 (q.o.m : Int), .int .i64 q.who]
set_option maxRecDepth 1000000 in
theorem reqBegin_any {P : Nat} {x : Px} {b m n1 n2 : Int} {cs : List Comp} {w w0 : World} (h : All (pxL P x b m n1 n2 ++ cs) w) (hT : Tab w0) (hin : inC w0 ∈ cs) (I : PxI x m n1 n2) (q : Wi) (hq : q.ask = false) :
    Calls Tryz.prog 163 #[reqV P q] w (BgPost P x b m n1 n2 q cs) := by
  have C := hid (submit_any (h.alloc (.cells #[ptr P, .int .i64 q.o.k, .string ⟨q.o.nm.toArray⟩, .string ⟨q.o.tx.toArray⟩, .int .i64 (q.o.n : Int), .int .i64 (q.o.m : Int)] 216)) hT hin I q hq)
  unfold OpR.val at C
  unfold reqV
  clear h hT hin I hq
  obtain ⟨BP, hBP⟩ : ∃ BP, Hid (BP = BgPost P x b m n1 n2 q cs) := ⟨_, hid rfl⟩
  have HF : Hid (∀ e w', BP e w' → ∃ v er, e = .returned (.tuple #[v, .int .i64 er]) ∧ ∃ ao n c, v = .slice ao n c) := hid (fun e w' h => by
    rw [hBP.out] at h
    rcases h with ⟨_, rfl, _⟩ | ⟨_, H, rfl, _⟩
    · exact ⟨_, _, rfl, _, _, _, rfl⟩
    · exact ⟨_, _, rfl, _, _, _, rfl⟩)
  rw [← hBP.out] at C ⊢
  clear hBP
  generalize ByteArray.mk q.o.nm.toArray = NM at *
  generalize ByteArray.mk q.o.tx.toArray = TX at *
  generalize q.o.k = k at *
  generalize (q.o.n : Int) = nn at *
  generalize (q.o.m : Int) = mm at *
  go_enter Tryz.func163, Tryz.ntmps163
  go_wp2_with (go_at_call 191; refine C.out.mono ?_; rintro e w' hp; obtain ⟨v, er, rfl, ao, n, c, rfl⟩ := HF.out e w' hp; have HP := hid hp; clear hp)
  exact HP.out
set_option maxRecDepth 1000000 in
theorem queBegin_any {P : Nat} {x : Px} {b m n1 n2 : Int} {cs : List Comp} {w w0 : World} (h : All (pxL P x b m n1 n2 ++ cs) w) (hT : Tab w0) (hin : inC w0 ∈ cs) (I : PxI x m n1 n2) (q : Wi) (hq : q.ask = true) :
    Calls Tryz.prog 165 #[queV P q] w (BgPost P x b m n1 n2 q cs) := by
  have C := hid (ask_any' (h.alloc (.cells #[ptr P, .int .i64 q.o.k, .string ⟨q.o.nm.toArray⟩, .string ⟨q.o.tx.toArray⟩, .int .i64 (q.o.n : Int), .int .i64 (q.o.m : Int), .int .i64 q.who] 218)) hT hin I q hq)
  unfold OpR.val at C
  unfold queV
  clear h hT hin I hq
  obtain ⟨BP, hBP⟩ : ∃ BP, Hid (BP = BgPost P x b m n1 n2 q cs) := ⟨_, hid rfl⟩
  have HF : Hid (∀ e w', BP e w' → ∃ v er, e = .returned (.tuple #[v, .int .i64 er]) ∧ ∃ ao n c, v = .slice ao n c) := hid (fun e w' h => by
    rw [hBP.out] at h
    rcases h with ⟨_, rfl, _⟩ | ⟨_, H, rfl, _⟩
    · exact ⟨_, _, rfl, _, _, _, rfl⟩
    · exact ⟨_, _, rfl, _, _, _, rfl⟩)
  rw [← hBP.out] at C ⊢
  clear hBP
  generalize ByteArray.mk q.o.nm.toArray = NM at *
  generalize ByteArray.mk q.o.tx.toArray = TX at *
  generalize q.o.k = k at *
  generalize q.who = who at *
  generalize (q.o.n : Int) = nn at *
  generalize (q.o.m : Int) = mm at *
  go_enter Tryz.func165, Tryz.ntmps165
  go_wp2_with (go_at_call 193; refine C.out.mono ?_; rintro e w' hp; obtain ⟨v, er, rfl, ao, n, c, rfl⟩ := HF.out e w' hp; have HP := hid hp; clear hp)
  exact HP.out
end Go.Proofs.YtdhkdniddjnigaaGreatDoor

namespace Go.Proofs.YtdhkdniddjnigaaGreatDoor
open Go.RowKit
set_option linter.unusedVariables false

/-- Cells that are written one behind the other. -/
def setAll (vs : List Value) (o : Nat) : List Value → List Value
  | [] => vs
  | u :: us => setAll (vs.set o u) (o + 1) us
theorem setAll_pre (a : List Value) : ∀ (us vs : List Value) (o : Nat), setAll (a ++ vs) (a.length + o) us = a ++ setAll vs o us
  | [], vs, o => rfl
  | u :: us, vs, o => by
    simp only [setAll]
    rw [List.set_append_right _ _ (by omega), Nat.add_sub_cancel_left, Nat.add_assoc]
    exact setAll_pre a us (vs.set o u) (o + 1)
theorem setAll_head : ∀ (us old rest : List Value), us.length = old.length → setAll (old ++ rest) 0 us = us ++ rest
  | [], [], rest, _ => rfl
  | u :: us, v :: old, rest, h => by
    simp only [setAll, List.cons_append, List.set_cons_zero]
    have := setAll_pre [u] us (old ++ rest) 0
    simp only [List.cons_append, List.nil_append, List.length_cons, List.length_nil, Nat.zero_add, Nat.add_zero] at this
    rw [Nat.zero_add, this, setAll_head us old rest (by simpa using h)]
theorem setAll_mid (a old us rest : List Value) (o : Nat) (ho : a.length = o) (hl : us.length = old.length) : setAll (a ++ (old ++ rest)) o us = a ++ (us ++ rest) := by
  subst ho
  have := setAll_pre a us (old ++ rest) 0
  rw [Nat.add_zero] at this
  rw [this, setAll_head us old rest hl]
theorem All.rowCut {e : TypeId} {size g n m c : Nat} {vs us : List Value} {cs : List Comp} {w : World} (h : All (rowC e size (.slice (some ⟨g, 0, none⟩) n c) n (vs ++ us) :: cs) w) (hm : m ≤ n) (hv : vs.length = m * size) : All (rowC e size (.slice (some ⟨g, 0, none⟩) m c) m vs :: cs) w := by
  have ho : w.ownsRow 0 e size (.slice (some ⟨g, 0, none⟩) n c) n (vs ++ us) := h.1.2.1
  refine ⟨⟨rowC_good _ _ _ _ _, ⟨hv, ?_⟩, fun k hk => h.1.2.2 k hk⟩, fun d hd k hk => h.2.1 d hd k hk, h.2.2⟩
  rcases ho.2 with ⟨e1, _⟩ | ⟨g', cap, cur, e1, h0, hg, hn, hmx, hcs, ht⟩
  · cases e1
  · simp only [Value.slice.injEq, Option.some.injEq, Addr.mk.injEq, and_true] at e1
    obtain ⟨rfl, -, rfl⟩ := e1
    refine Or.inr ⟨g, c, cur, rfl, h0, hg, by omega, hmx, hcs, ?_⟩
    have := congrArg (List.take (m * size)) ht
    rw [List.take_take, Nat.min_eq_left (Nat.mul_le_mul_right _ hm), show List.take (m * size) (vs ++ us) = vs by rw [← hv, List.take_left]] at this
    exact this

/-- One cell of a row. -/
theorem owns_set {e : TypeId} {size g n c j : Nat} {vs : List Value} {u : Value} {w : World} (h : w.ownsRow 0 e size (.slice (some ⟨g, 0, none⟩) n c) n vs) : (w.setCell ⟨g, j, none⟩ u).ownsRow 0 e size (.slice (some ⟨g, 0, none⟩) n c) n (vs.set j u) := by
  refine ⟨by rw [List.length_set]; exact h.1, ?_⟩
  rcases h.2 with ⟨e1, _⟩ | ⟨g', cap, cur, e1, h0, hg, hn, hm, hcs, ht⟩
  · cases e1
  · simp only [Value.slice.injEq, Option.some.injEq, Addr.mk.injEq, and_true] at e1
    obtain ⟨rfl, _, rfl⟩ := e1
    refine Or.inr ⟨g, c, cur.setIfInBounds j u, rfl, h0, heap_setCell_same hg u, hn, hm, by simpa using hcs, ?_⟩
    rw [Array.toList_setIfInBounds, List.take_set, ht]
theorem All.rowSet {e : TypeId} {size g n c : Nat} {vs : List Value} {cs : List Comp} {w : World} (h : All (rowC e size (.slice (some ⟨g, 0, none⟩) n c) n vs :: cs) w) (j : Nat) (u : Value) : All (rowC e size (.slice (some ⟨g, 0, none⟩) n c) n (vs.set j u) :: cs) (w.setCell ⟨g, j, none⟩ u) := by
  refine h.turn ?_ (rowC_good _ _ _ _ _) (owns_set h.1.2.1) (fun k hk => Or.inl hk) (fun k hk => ?_)
  · exact (Fr.setCell w g j u).mono (fun k hk => by simpa [rowC, Value.ownBlock, eq_comm] using hk)
  · have := h.1.2.2 k hk
    simpa [World.setCell] using this
theorem All.rowSets {e : TypeId} {size g n c : Nat} {cs : List Comp} : ∀ (us vs : List Value) (w : World) (o : Nat), All (rowC e size (.slice (some ⟨g, 0, none⟩) n c) n vs :: cs) w → All (rowC e size (.slice (some ⟨g, 0, none⟩) n c) n (setAll vs o us) :: cs) (w.setCells g o us)
  | [], vs, w, o, h => h
  | u :: us, vs, w, o, h => by
    rw [World.setCells]
    exact All.rowSets us (vs.set o u) _ (o + 1) (h.rowSet o u)

theorem Tryz.info136 : (Tryz.prog.info? 136).map (fun i => (i.zero, i.size, i.bytes)) = some (some (.agg #[.int .i64 0, .nilFunc]), 2, 16) := by kernel_rfl
def zW : List Value := [.int .i64 0, .nilFunc]
theorem clear_wi {w : World} (b o c : Nat) (ty : TypeId) (hc : ∀ j, j < 2 → (w.cell? ⟨b, o + j, none⟩).isSome = true) (hf : ∀ j, j < 2 → w.frozen? ⟨b, o + j, none⟩ = false) :
    (Builtin.clear_ #[75] ty #[.slice (some ⟨b, o, none⟩) 1 c]).run Tryz.prog w = .ok (.tuple #[]) (w.setCells b o zW) := by
  have hv : ∀ w, (zeroValue 136).run Tryz.prog w = .ok (.agg zW.toArray) w := Tryz.zeroValue136
  have hzc : (Builtin.zeroCells (Value.agg zW.toArray).cells 1).toList = zW := by kernel_rfl
  have hst := run_storeCells_cells (P := Tryz.prog) b o zW 0 w (by rw [show zW.length = 2 from rfl]; simpa using hc) (by rw [show zW.length = 2 from rfl]; simpa using hf) (by simp [zW, Value.oneCell'])
  simp only [Nat.add_zero] at hst
  simp [Builtin.clear_, run_underlying Tryz.underlying75, hv, hzc, hst]
theorem rowC_cells {w : World} {g c n : Nat} {vs : List Value} {cs : List Comp} (h : All (rowC 136 2 (.slice (some ⟨g, 0, none⟩) n c) n vs :: cs) w) : (∀ j u, vs[j]? = some u → w.cell? ⟨g, j, none⟩ = some u) ∧ (∀ j, j < n * 2 → (w.cell? ⟨g, j, none⟩).isSome = true ∧ w.frozen? ⟨g, j, none⟩ = false) ∧ vs.length = n * 2 ∧ n ≤ c ∧ c ≤ maxLen := by
  have ho : w.ownsRow 0 136 2 (.slice (some ⟨g, 0, none⟩) n c) n vs := h.1.2.1
  have hl := ho.1
  have hcap := row_cap ho
  refine ⟨fun j u hu => ?_, fun j hj => ?_, hl, hcap.2.1, hcap.2.2⟩
  · obtain ⟨g', e, _, hc⟩ := row_at ho hu
    simp only [Option.some.injEq, Addr.mk.injEq, and_true] at e
    subst e
    exact hc
  · rcases ho.2 with ⟨e1, _⟩ | ⟨g', cap, cur, e1, h0, hg, hn, hmx, hcs, ht⟩
    · cases e1
    · simp only [Value.slice.injEq, Option.some.injEq, Addr.mk.injEq, and_true] at e1
      obtain ⟨rfl, -, rfl⟩ := e1
      refine ⟨?_, free_at hg j⟩
      rw [cell_at hg, Array.getElem?_eq_getElem (by rw [hcs]; omega)]
      rfl
set_option maxHeartbeats 1600000 in
set_option maxRecDepth 1000000 in
/-- slices.Delete of the first one. -/
theorem del_first {g c n : Nat} {a b : Value} {us : List Value} {cs : List Comp} {w : World} (h : All (rowC 136 2 (.slice (some ⟨g, 0, none⟩) n c) n (a :: b :: us) :: cs) w) (hn : n ≤ 1024) (hone : ∀ u ∈ us, u.oneCell' = true) :
    Calls Tryz.prog 88 #[.slice (some ⟨g, 0, none⟩) n c, .int .i64 0, .int .i64 1] w fun e w' => e = .returned (.slice (some ⟨g, 0, none⟩) (n - 1) c) ∧ All (rowC 136 2 (.slice (some ⟨g, 0, none⟩) (n - 1) c) (n - 1) us :: cs) w' := by
  obtain ⟨i0, hi0, hz0, hz1, hz2⟩ := info_parts Tryz.info136
  obtain ⟨hcl, hth, hlen, hnc, hcm⟩ := rowC_cells h.drew
  simp only [List.length_cons] at hlen
  have hul : us.length = (n - 1) * 2 := by omega
  have hn1 : 1 ≤ n := by omega
  have A1 := All.rowSets us _ _ 0 h.drew
  have hspl : a :: b :: us = (a :: b :: us).take us.length ++ (a :: b :: us).drop us.length := (List.take_append_drop _ _).symm
  have hrl : ((a :: b :: us).drop us.length).length = 2 := by rw [List.length_drop]; simp only [List.length_cons]; omega
  have e1 : setAll (a :: b :: us) 0 us = us ++ (a :: b :: us).drop us.length := by
    conv => lhs; rw [hspl]
    exact setAll_head us _ _ (by rw [List.length_take]; simp only [List.length_cons]; omega)
  rw [e1] at A1
  obtain ⟨hcl2, hth2, _⟩ := rowC_cells A1
  have e2 : setAll (us ++ (a :: b :: us).drop us.length) ((n - 1) * 2) zW = us ++ zW := by
    have := setAll_mid us ((a :: b :: us).drop us.length) zW [] ((n - 1) * 2) hul (by rw [hrl]; rfl)
    simpa using this
  have A2 := All.rowSets zW _ _ ((n - 1) * 2) A1
  rw [e2] at A2
  have A3 := hid (A2.rowCut (m := n - 1) (by omega) hul)
  have hcr : ∀ ty, (Builtin.clear_ #[75] ty #[.slice (some ⟨g, (n - 1) * 2, none⟩) 1 (c - (n - 1))]).run Tryz.prog (w.drew.setCells g 0 us) = .ok (.tuple #[]) ((w.drew.setCells g 0 us).setCells g ((n - 1) * 2) zW) := fun ty => clear_wi _ _ _ ty (fun j hj => (hth2 _ (by omega)).1) (fun j hj => (hth2 _ (by omega)).2)
  have hR : ∃ A : Addr, (if c = 1 then some (⟨g, 0, none⟩ : Addr) else some ⟨g, 2, none⟩) = some A ∧ (Builtin.append_ #[75, 75] 75 #[.slice (some ⟨g, 0, none⟩) 0 c, .slice (some A) (n - 1) (c - 1)]).run Tryz.prog w.drew = .ok (.slice (some ⟨g, 0, none⟩) (n - 1) c) (w.drew.setCells g 0 us) := by
    have key : ∀ A : Addr, (∀ j u, us[j]? = some u → w.drew.cell? (A.add j) = some u) → (Builtin.append_ #[75, 75] 75 #[.slice (some ⟨g, 0, none⟩) 0 c, .slice (some A) (n - 1) (c - 1)]).run Tryz.prog w.drew = .ok (.slice (some ⟨g, 0, none⟩) (n - 1) c) (w.drew.setCells g 0 us) := by
      intro A hA
      have := run_append_room_cells (P := Tryz.prog) w.drew 75 75 136 i0 Tryz.underlying75 hi0 g 0 0 c A (n - 1) (c - 1) us (by rw [hz1]; exact hul) hA hone (by omega)
        (fun j hj => by simpa using (hth j (by omega)).1)
        (fun j hj => by simpa using (hth j (by omega)).2)
      simpa using this
    by_cases hcc : c = 1
    · refine ⟨⟨g, 0, none⟩, by rw [if_pos hcc], key _ (fun j u hu => ?_)⟩
      have : us = [] := List.length_eq_zero_iff.1 (by omega)
      rw [this] at hu
      simp at hu
    · refine ⟨⟨g, 2, none⟩, by rw [if_neg hcc], key _ (fun j u hu => ?_)⟩
      rw [Addr.add_lit, show 2 + j = j + 2 by omega]
      exact hcl (j + 2) u (by simpa using hu)
  obtain ⟨A, hA, hrun⟩ := hR
  have HR := hid hrun
  have HC := hid hcr
  unfold maxLen at hcm
  clear A1 A2 e1 e2 hcl hth hcl2 hth2 hspl hrl h hone hrun hlen hul hcr
  generalize w.drew.setCells g 0 us = w1 at *
  generalize w1.setCells g ((n - 1) * 2) zW = w2 at *
  have h2 : (n : Int) ≤ (c : Int) := by omega
  have h3 : ¬ n = 0 := by omega
  have h4 : ¬ c = n - 1 := by omega
  have h5 : n - (n - 1) = 1 := by omega
  have h6 : ((n - 1 : Nat) : Int) ≤ (n : Int) := by omega
  have h7 : (1 : Int) ≤ (n : Int) := by omega
  have h8 : (1 : Int) ≤ (c : Int) := by omega
  have HC := HC.out
  go_enter Tryz.func88, Tryz.ntmps88
  go_wp2_with fail
  go_region_law (refine step_append_run (by rfl) _ _ 75 (by rfl) _ _ _ _ (by rfl) (by rfl) HR.out ?_)
  all_goals (go_wp2; go_ret; exact ⟨rfl, A3.out⟩)
end Go.Proofs.YtdhkdniddjnigaaGreatDoor

namespace Go.Proofs.YtdhkdniddjnigaaGreatDoor
open Go.RowKit
set_option linter.unusedVariables false

theorem refL_len {no e : Int} (h0 : 0 ≤ no) (h1 : no ≤ 4611686018427387904) (e0 : 0 ≤ e) (e1 : e ≤ 4611686018427387904) : (refL no e).length ≤ 300 := by
  have n1 := itoa_len h0 (by omega)
  have n2 := itoa_len e0 (by omega)
  have := joinW_le (Lib.itoa no :: [refuB, Lib.itoa e])
  unfold refL lnB
  rw [List.length_append]
  unfold lenJ at this
  simp only [List.map_cons, List.map_nil, List.sum_cons, List.sum_nil, refuB, List.length_cons, List.length_nil] at this ⊢
  omega
/-- How many wait, by the gate's cell. -/
def wsN (G : Nat) (w : World) : Nat := match w.cell? ⟨G, 5, none⟩ with
  | some (.slice _ n _) => n
  | _ => 0
theorem chkA_rng (k s t n m : Int) : 0 ≤ chkA k s t n m ∧ chkA k s t n m ≤ 1000 := by
  unfold chkA
  split
  · omega
  · unfold chkT chkR
    repeat' split
    all_goals omega
theorem bgE_rng (x : Px) (q : Wi) : 0 ≤ bgE x q ∧ bgE x q ≤ 1000 := by
  unfold bgE
  have := chkA_rng q.o.k (⟨q.o.nm.toArray⟩ : ByteArray).size (⟨q.o.tx.toArray⟩ : ByteArray).size (q.o.n : Int) (q.o.m : Int)
  unfold Wi.chk
  repeat' split
  all_goals omega
/-- A block of one message is a list of one. -/
theorem All.blkMs {H : Nat} {x : Ms} {cs : List Comp} {w : World} (h : All (blkC H x.cells 51 :: cs) w) : All (msC (.slice (some ⟨H, 0, none⟩) 1 1) [x] :: cs) w := by
  have hg : w.heap[H]? = some (.cells x.cells.toArray 51 (0, 0)) := h.1.2.1
  refine ⟨⟨rowC_good _ _ _ _ _, ?_, fun k hk => h.1.2.2 k (by simpa [rowC, blkC, Value.ownBlock, eq_comm] using hk)⟩, fun d hd k hk => h.2.1 d hd k (by simpa [rowC, blkC, Value.ownBlock, eq_comm] using hk), h.2.2⟩
  refine ⟨by simp [Ms.len], Or.inr ⟨H, 1, x.cells.toArray, rfl, Nat.zero_le _, hg, Nat.le_refl _, by unfold maxLen; omega, by simp [Ms.len], ?_⟩⟩
  simp
  exact List.take_of_length_le (by rw [x.len]; exact Nat.le_refl _)
theorem Wi.fn_req {P : Nat} {q : Wi} (h : q.ask = false) : q.fn P = .func (.func 163) #[reqV P q] #[] := by unfold Wi.fn; rw [h]; rfl
theorem Wi.fn_que {P : Nat} {q : Wi} (h : q.ask = true) : q.fn P = .func (.func 165) #[queV P q] #[] := by unfold Wi.fn; rw [h]; rfl
theorem goL_no {m : Int} {s : Gs} {w : Wi} {r : List Wi} (h : bgE s.x w ≠ 0) : goL m s (w :: r) = ⟨(goL m s r).s, (goL m s r).ms, refL w.no (bgE s.x w) ++ (goL m s r).tl⟩ := by
  show (if bgE s.x w = 0 then _ else _) = _
  rw [if_neg h]
theorem goL_yes {m : Int} {s : Gs} {w : Wi} {r : List Wi} (h : bgE s.x w = 0) : goL m s (w :: r) = ⟨bgS m s w r, [bgM s.x w s.n1 s.n2], []⟩ := by
  show (if bgE s.x w = 0 then _ else _) = _
  rw [if_pos h]
/-- A wish begins, whichever it is. -/
theorem beginW_any {P : Nat} {x : Px} {b m n1 n2 : Int} {cs : List Comp} {w w0 : World} (h : All (pxL P x b m n1 n2 ++ cs) w) (hT : Tab w0) (hin : inC w0 ∈ cs) (I : PxI x m n1 n2) (q : Wi) :
    (q.ask = false ∧ Calls Tryz.prog 163 #[reqV P q] w (BgPost P x b m n1 n2 q cs)) ∨ (q.ask = true ∧ Calls Tryz.prog 165 #[queV P q] w (BgPost P x b m n1 n2 q cs)) := by
  cases hq : q.ask with
  | false => exact Or.inl ⟨rfl, reqBegin_any h hT hin I q hq⟩
  | true => exact Or.inr ⟨rfl, queBegin_any h hT hin I q hq⟩
theorem run_store_func (P : Program) (w : World) (a : Addr) (m : Mode) (f : Fn) (x y : Array Value) : (store a (.func f x y) m).run P w = stored P w a (.func f x y) m := run_store P w a _ m rfl
attribute [local go_sem] run_store_func
set_option maxHeartbeats 3200000 in
set_option maxRecDepth 1000000 in
/-- What waits begins. -/
theorem goOn_gt {G P : Nat} {s : Gs} {tl : List UInt8} {b m : Int} {cs : List Comp} {w : World} (h : Gt G P s tl b m cs w) (E : Evs cs) (I : PxI s.x m s.n1 s.n2) (hno : ∀ q ∈ s.ws, 0 ≤ q.no ∧ q.no ≤ 4611686018427387904) (hn : s.ws.length ≤ 16) (ht : tl.length ≤ 50000000000000) :
    Calls Tryz.prog 55 #[.pointer (some ⟨G, 3, none⟩)] w fun e w' => ∃ v, e = .returned v ∧ Gt G P (goM m s).s (tl ++ (goM m s).tl) b m (msC v (goM m s).ms :: cs) w' := by
  have N : ∀ (s' : Gs) tl' w', Gt G P s' tl' b m cs w' → Gt G P s' tl' b m (msC (.slice none 0 0) [] :: cs) w' := fun s' tl' w' h => by
    obtain ⟨t, u, v, h⟩ := h
    exact ⟨t, u, v, ((All.addRow0 (e := 51) (size := 23) h).perm List.perm_middle.symm)⟩
  by_cases hu : s.uw = 0
  · have e1 : goM m s = goL m s s.ws := by unfold goM; rw [if_pos hu]
    rw [e1]
    obtain ⟨R, hR⟩ : ∃ R, Hid (R = goL m s s.ws) := ⟨_, hid rfl⟩
    rw [← hR.out]
    have A0 : Hid (Gt G P { s with ws := s.ws } (tl ++ []) b m cs w) := hid (by rw [List.append_nil]; exact h)
    have HN := hid N
    have HNO := hid hno
    have HE := hid E
    have HI := hid I
    have HU := hid hu
    have HT := hid ht
    have HL := hid hn
    clear h N e1 hno E I hu ht hn
    go_enter Tryz.func55, Tryz.ntmps55
    go_wp2
    go_loopw [2] (fun u wr => ∃ (r : List Wi) (dn : List UInt8), u = .slice none 0 0 ∧ Hid (R = ⟨(goL m s r).s, (goL m s r).ms, dn ++ (goL m s r).tl⟩) ∧ Hid (dn.length + r.length * 300 ≤ 4800) ∧ Hid (∀ q ∈ r, 0 ≤ q.no ∧ q.no ≤ 4611686018427387904) ∧ Hid (Gt G P { s with ws := r } (tl ++ dn) b m cs wr)) (fun u wr => wsN G wr)
    case atStart => exact ⟨s.ws, [], rfl, hid (by rw [hR.out]; rfl), hid (by have := HL.out; simp only [List.length_nil]; omega), HNO, A0⟩
    case round =>
      clear A0
      obtain ⟨r, dn, rfl, HRr, HD, HNR, h5⟩ := hrel
      obtain ⟨txv, wsv, tov, A⟩ := h5.out
      clear h5
      have c4 : wr.cell? ⟨G, 4, none⟩ = some (.int .i64 0) := by rw [Gt.cell A 4, ← HU.out]; rfl
      obtain ⟨aw, cw, rfl⟩ := owns_form A.tail.tail.tail.1.2.1
      have c5 : wr.cell? ⟨G, 5, none⟩ = some (.slice aw r.length cw) := Gt.cell A 5
      cases r with
      | nil =>
        have P1 : Hid (Gt G P R.s (tl ++ R.tl) b m (msC (.slice none 0 0) R.ms :: cs) wr) := hid (by
          rw [HRr.out]
          simp only [goL, List.append_nil]
          exact HN.out _ _ _ ⟨txv, _, tov, A⟩)
        clear A HRr HD HNR HN HNO HE HI HU HT HL hR
        simp only [List.length_nil] at c5
        go_wp2
        go_ret
        exact ⟨_, rfl, P1.out⟩
      | cons q r =>
        obtain ⟨g, eg, _, hc0⟩ := row_at A.tail.tail.tail.1.2.1 (k := 0) (u := .int .i64 q.no) rfl
        subst eg
        obtain ⟨g', eg', hgl, hc1⟩ := row_at A.tail.tail.tail.1.2.1 (k := 1) (u := q.fn P) rfl
        simp only [Option.some.injEq, Addr.mk.injEq, and_true] at eg'
        subst eg'
        obtain ⟨B, hB⟩ : ∃ B, Hid (B = wr.heap.size) := ⟨_, hid rfl⟩
        have A1 := A.addBlk [.int .i64 q.no, q.fn P] 136
        rw [← hB.out] at A1
        have A1 := A1.perm (List.perm_middle (l₁ := [_, _, _, _]))
        have D := hid (del_first (g := g) (c := cw) (n := (q :: r).length) (a := .int .i64 q.no) (b := q.fn P) (us := r.flatMap (Wi.cells P)) A1 (by have := HD.out; simp only [List.length_cons] at this ⊢; omega) (fun u hu => flat_one (fun x => Wi.one P x) r u hu))
        have n0 : (0 : Int) < ((q :: r).length : Int) := by simp only [List.length_cons]; omega
        have n0' : 0 < (q :: r).length := by simp
        have en : (q :: r).length - 1 = r.length := rfl
        rw [en] at D
        have m0 : Hid (wsN G wr = (q :: r).length) := hid (by unfold wsN; rw [c5])
        have k5 : Hid ((wr.alloc (.cells [.int .i64 q.no, q.fn P].toArray 136)).cell? ⟨G, 5, none⟩ = some (.slice (some ⟨g, 0, none⟩) (q :: r).length cw)) := hid (by rw [cell_at A1.tail.tail.1.2.1]; rfl)
        clear A A1
        obtain ⟨nf, bv, hfn, hnf⟩ : ∃ nf bv, q.fn P = .func (.func nf) #[bv] #[] ∧ Hid ((nf = 163 ∧ q.ask = false ∧ bv = reqV P q) ∨ (nf = 165 ∧ q.ask = true ∧ bv = queV P q)) := by
          cases hq : q.ask with
          | false => exact ⟨163, reqV P q, Wi.fn_req hq, hid (Or.inl ⟨rfl, rfl, rfl⟩)⟩
          | true => exact ⟨165, queV P q, Wi.fn_que hq, hid (Or.inr ⟨rfl, rfl, rfl⟩)⟩
        rw [hfn] at hc1 D k5
        have hfn := hid hfn
        generalize (q :: r).length = nq at *
        go_upto_region 3 with fail
        simp only [← hB.out]
        generalize wr.alloc (.cells #[.int .i64 q.no, .func (.func nf) #[bv] #[]] 136) = w1 at *
        have k5 := k5.out
        go_upto_region 4 with (go_at_call 88; refine D.out.mono ?_; rintro e w2 ⟨rfl, A2⟩; have A3 := A2.perm (List.perm_middle (l₁ := [_, _])); have f5 := free_at A3.1.2.1 5; have c5' : w2.cell? ⟨G, 5, none⟩ = some (.slice (some ⟨g, 0, none⟩) nq cw) := (cell_at A3.1.2.1 5).trans rfl; have A4 := hid (A3.setBlk 5 (.slice (some ⟨g, 0, none⟩) r.length cw)); clear A2 A3)
        clear D k5 c5 c4 hc0 hc1 f5 c5'
        generalize w2.setCell ⟨G, 5, none⟩ (.slice (some ⟨g, 0, none⟩) r.length cw) = w3 at *
        have A5 := hid (A4.out.perm (List.perm_append_comm_assoc [_, _, _, _, _] (pxL P s.x b m s.n1 s.n2) cs))
        have kB1 : w3.cell? ⟨B, 1, none⟩ = some (.func (.func nf) #[bv] #[]) := (cell_at A4.out.tail.tail.1.2.1 1).trans rfl
        obtain ⟨w0, hin0, hT0⟩ := HE.out.I
        clear A4
        rcases hnf.out with ⟨rfl, hq, rfl⟩ | ⟨rfl, hq, rfl⟩
        · have BC := hid (reqBegin_any A5.out hT0 (List.mem_append_right _ hin0) HI.out q hq)
          clear A5
          go_wp2_with fail
          refine BC.out.mono ?_
          rintro e w4 hp
          clear BC kB1
          rcases hp with ⟨hbe, rfl, A6⟩ | ⟨hbe, H, rfl, A6⟩
          · have hr := bgE_rng s.x q
            have heq : (bgE s.x q == 0) = false := by simpa using hbe
            have A7 := A6.perm (List.perm_append_comm_assoc [_, _, _, _, _] (pxL P s.x b m s.n1 s.n2) cs).symm
            have kB0 : w4.cell? ⟨B, 0, none⟩ = some (.int .i64 q.no) := (cell_at A7.tail.tail.1.2.1 0).trans rfl
            have A8 := A7.perm (List.Perm.cons _ (List.perm_middle (l₁ := [_, _, _])))
            have RC := hid (refuse_any A8 (fun W hW => HE.out.V W (show All (pxL P s.x b m s.n1 s.n2 ++ cs) W from hW.tail.tail.tail).app) (HNR.out q (by simp)).1 (HNR.out q (by simp)).2 hr.1 (by omega) (by have := HT.out; have := HD.out; rw [List.length_append]; omega))
            have HX : Hid (R = ⟨(goL m s r).s, (goL m s r).ms, (dn ++ refL q.no (bgE s.x q)) ++ (goL m s r).tl⟩) := hid (by rw [HRr.out, goL_no hbe, List.append_assoc])
            have HLn : Hid ((refL q.no (bgE s.x q)).length ≤ 300) := hid (refL_len (HNR.out q (by simp)).1 (HNR.out q (by simp)).2 hr.1 (by omega))
            clear A6 A7 A8 hr HRr hbe
            generalize bgE s.x q = er at *
            go_wp2_with (go_at_call 54; refine RC.out.mono ?_; rintro e w5 ⟨rfl, tov', A9⟩; have A10 := hid ((A9.perm (List.perm_middle (l₁ := [_, _, _]))).tail.perm (List.Perm.cons _ (List.perm_middle (l₁ := [_, _])))); clear A9)
            have m1 : wsN G w5 = r.length := by
              unfold wsN
              rw [cell_at A10.out.1.2.1]
              rfl
            go_roundw
            case rel => exact ⟨r, dn ++ refL q.no er, rfl, HX, hid (by have := HD.out; have := HLn.out; rw [List.length_append]; omega), hid (fun y hy => HNR.out y (by simp [hy])), hid ⟨txv, _, tov', by rw [← List.append_assoc]; exact A10.out⟩⟩
            case measure => rw [m1, m0.out]; omega
          · have A7 := A6.perm (List.Perm.cons _ (List.perm_append_comm_assoc [_, _, _, _, _] (pxL P (bgX s.x q s.n1 s.n2) b m (bg1 m s.n1 q) (bg2 m s.n2 q)) cs).symm)
            have kB0 : w4.cell? ⟨B, 0, none⟩ = some (.int .i64 q.no) := (cell_at A7.tail.tail.tail.1.2.1 0).trans rfl
            have c4' : w4.cell? ⟨G, 4, none⟩ = some (.int .i64 s.uw) := (cell_at A7.tail.1.2.1 4).trans rfl
            have f4 := free_at A7.tail.1.2.1 4
            have A8 := (((A7.swap.setBlk 4 (.int .i64 q.no)).swap.blkMs).perm (List.perm_middle (l₁ := [_, _, _]))).tail
            have A9 := (A8.perm (List.Perm.cons _ (List.Perm.cons _ (perm3 _ _ _ _)))).perm (List.perm_middle (l₁ := gtL G P (bgS m s q r) (tl ++ dn) b m txv (.slice (some ⟨g, 0, none⟩) r.length cw) tov)).symm
            have P1 : Hid (Gt G P R.s (tl ++ R.tl) b m (msC (.slice (some ⟨H, 0, none⟩) 1 1) R.ms :: cs) (w4.setCell ⟨G, 4, none⟩ (.int .i64 q.no))) := hid (by
              rw [HRr.out, goL_yes hbe]
              simp only [List.append_nil]
              exact ⟨_, _, _, A9⟩)
            clear A6 A7 A8 A9 HRr hbe
            go_wp2
            go_ret
            exact ⟨_, rfl, P1.out⟩
        · have BC := hid (queBegin_any A5.out hT0 (List.mem_append_right _ hin0) HI.out q hq)
          clear A5
          go_wp2_with fail
          refine BC.out.mono ?_
          rintro e w4 hp
          clear BC kB1
          rcases hp with ⟨hbe, rfl, A6⟩ | ⟨hbe, H, rfl, A6⟩
          · have hr := bgE_rng s.x q
            have heq : (bgE s.x q == 0) = false := by simpa using hbe
            have A7 := A6.perm (List.perm_append_comm_assoc [_, _, _, _, _] (pxL P s.x b m s.n1 s.n2) cs).symm
            have kB0 : w4.cell? ⟨B, 0, none⟩ = some (.int .i64 q.no) := (cell_at A7.tail.tail.1.2.1 0).trans rfl
            have A8 := A7.perm (List.Perm.cons _ (List.perm_middle (l₁ := [_, _, _])))
            have RC := hid (refuse_any A8 (fun W hW => HE.out.V W (show All (pxL P s.x b m s.n1 s.n2 ++ cs) W from hW.tail.tail.tail).app) (HNR.out q (by simp)).1 (HNR.out q (by simp)).2 hr.1 (by omega) (by have := HT.out; have := HD.out; rw [List.length_append]; omega))
            have HX : Hid (R = ⟨(goL m s r).s, (goL m s r).ms, (dn ++ refL q.no (bgE s.x q)) ++ (goL m s r).tl⟩) := hid (by rw [HRr.out, goL_no hbe, List.append_assoc])
            have HLn : Hid ((refL q.no (bgE s.x q)).length ≤ 300) := hid (refL_len (HNR.out q (by simp)).1 (HNR.out q (by simp)).2 hr.1 (by omega))
            clear A6 A7 A8 hr HRr hbe
            generalize bgE s.x q = er at *
            go_wp2_with (go_at_call 54; refine RC.out.mono ?_; rintro e w5 ⟨rfl, tov', A9⟩; have A10 := hid ((A9.perm (List.perm_middle (l₁ := [_, _, _]))).tail.perm (List.Perm.cons _ (List.perm_middle (l₁ := [_, _])))); clear A9)
            have m1 : wsN G w5 = r.length := by
              unfold wsN
              rw [cell_at A10.out.1.2.1]
              rfl
            go_roundw
            case rel => exact ⟨r, dn ++ refL q.no er, rfl, HX, hid (by have := HD.out; have := HLn.out; rw [List.length_append]; omega), hid (fun y hy => HNR.out y (by simp [hy])), hid ⟨txv, _, tov', by rw [← List.append_assoc]; exact A10.out⟩⟩
            case measure => rw [m1, m0.out]; omega
          · have A7 := A6.perm (List.Perm.cons _ (List.perm_append_comm_assoc [_, _, _, _, _] (pxL P (bgX s.x q s.n1 s.n2) b m (bg1 m s.n1 q) (bg2 m s.n2 q)) cs).symm)
            have kB0 : w4.cell? ⟨B, 0, none⟩ = some (.int .i64 q.no) := (cell_at A7.tail.tail.tail.1.2.1 0).trans rfl
            have c4' : w4.cell? ⟨G, 4, none⟩ = some (.int .i64 s.uw) := (cell_at A7.tail.1.2.1 4).trans rfl
            have f4 := free_at A7.tail.1.2.1 4
            have A8 := (((A7.swap.setBlk 4 (.int .i64 q.no)).swap.blkMs).perm (List.perm_middle (l₁ := [_, _, _]))).tail
            have A9 := (A8.perm (List.Perm.cons _ (List.Perm.cons _ (perm3 _ _ _ _)))).perm (List.perm_middle (l₁ := gtL G P (bgS m s q r) (tl ++ dn) b m txv (.slice (some ⟨g, 0, none⟩) r.length cw) tov)).symm
            have P1 : Hid (Gt G P R.s (tl ++ R.tl) b m (msC (.slice (some ⟨H, 0, none⟩) 1 1) R.ms :: cs) (w4.setCell ⟨G, 4, none⟩ (.int .i64 q.no))) := hid (by
              rw [HRr.out, goL_yes hbe]
              simp only [List.append_nil]
              exact ⟨_, _, _, A9⟩)
            clear A6 A7 A8 A9 HRr hbe
            go_wp2
            go_ret
            exact ⟨_, rfl, P1.out⟩
  · have e1 : goM m s = ⟨s, [], []⟩ := by unfold goM; rw [if_neg hu]
    rw [e1]
    obtain ⟨txv, wsv, tov, A⟩ := h
    have c4 : w.cell? ⟨G, 4, none⟩ = some (.int .i64 s.uw) := Gt.cell A 4
    have u0 : (s.uw == 0) = false := by simpa using hu
    have P1 : Hid (Gt G P s tl b m (msC (.slice none 0 0) [] :: cs) w) := hid (N _ _ _ ⟨txv, _, tov, A⟩)
    rw [List.append_nil]
    clear N e1 hno E I hu ht hn A
    generalize s.uw = uw at *
    go_enter Tryz.func55, Tryz.ntmps55
    go_wp2
    go_loop [2] (fun u => u = .slice none 0 0) (fun u => 0)
    case atStart => rfl
    case round =>
      subst hrel
      go_wp2
      go_ret
      exact ⟨_, rfl, P1.out⟩
end Go.Proofs.YtdhkdniddjnigaaGreatDoor
