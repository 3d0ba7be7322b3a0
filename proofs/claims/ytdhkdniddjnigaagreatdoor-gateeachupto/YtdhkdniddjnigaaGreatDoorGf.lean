import Derived.Test.YtdhkdniddjnigaaGreatDoorGe
import Derived.Test.YtdhkdniddjnigaaGreatDoorOl
import Derived.Test.YtdhkdniddjnigaaGreatDoorE1
namespace Go.Proofs.YtdhkdniddjnigaaGreatDoor
open Go.RowKit
set_option linter.unusedVariables false

/-- What stands in the memory besides. -/
structure Evs (cs : List Comp) : Prop where
  V : ∀ W, All cs W → Vars W
  T : ∀ W, All cs W → Tab W
  W : ∀ W, All cs W → Wf W
  M : ∀ W, All cs W → ∃ m, W.cell? ⟨0, 0, none⟩ = some (.int .i64 m)
  I : ∃ w0, inC w0 ∈ cs ∧ Tab w0
theorem Evs.more {cs ds : List Comp} (h : Evs cs) (hp : ∀ W, All ds W → All cs W) (hi : ∀ c ∈ cs, c ∈ ds) : Evs ds :=
  ⟨fun W k => h.V W (hp W k), fun W k => h.T W (hp W k), fun W k => h.W W (hp W k), fun W k => h.M W (hp W k), by obtain ⟨w0, h1, h2⟩ := h.I; exact ⟨w0, hi _ h1, h2⟩⟩
theorem Evs.cons {cs : List Comp} (h : Evs cs) (c : Comp) : Evs (c :: cs) := h.more (fun W k => k.tail) (fun d hd => List.mem_cons_of_mem _ hd)
theorem All.app {xs cs : List Comp} {w : World} (h : All (xs ++ cs) w) : All cs w := by
  induction xs with
  | nil => exact h
  | cons x xs ih => exact ih h.tail
theorem Evs.app {cs : List Comp} (h : Evs cs) (xs : List Comp) : Evs (xs ++ cs) := h.more (fun W k => k.app) (fun d hd => List.mem_append_right _ hd)

theorem readM_eq (tx : List UInt8) (long : Bool) : readM tx long = if (wdsM tx long).2 ≠ 0 then .err ((wdsM tx long).2 : Int) else wishR (wdsM tx long).1 := by
  unfold readM wdsM
  cases long <;> rfl
theorem splitW_wsz (l : List UInt8) : wsz (splitW l).ws ≤ 16384 := by
  unfold splitW
  split
  · simp [Ans.ws, wsz]
  · have := runW_wsz l .ahead [] 0
    simp only [St.held, wsz, List.length_nil, List.map_nil, List.sum_nil] at this ⊢
    omega
theorem wds_wsz (tx : List UInt8) (long : Bool) : wsz (wdsM tx long).1 ≤ 16384 := by
  unfold wdsM
  cases long
  · exact splitW_wsz tx
  · simp [wsz]
theorem wsz_mem {ws : Ws} {x : List UInt8} (h : x ∈ ws) : x.length ≤ wsz ws := by
  unfold wsz
  induction ws with
  | nil => cases h
  | cons y r ih =>
    simp only [List.map_cons, List.sum_cons, List.length_cons]
    rcases List.mem_cons.1 h with rfl | h
    · omega
    · have := ih h; omega
set_option maxHeartbeats 1600000 in
set_option maxRecDepth 1000000 in
/-- What a line says. -/
theorem read_gt {G P : Nat} {s : Gs} {tl : List UInt8} {b m : Int} {cs : List Comp} {w : World} {txv wsv tov : Value} (A : All (gtL G P s tl b m txv wsv tov ++ cs) w) (hs : s.ok) (E : Evs cs) :
    Calls Tryz.prog 53 #[.pointer (some ⟨G, 3, none⟩), .agg #[.int .i64 s.no, txv, .bool s.long]] w fun e w' => e = .returned (rdG P (readM s.tx s.long)) ∧ All (gtL G P s tl b m txv wsv tov ++ cs) w' := by
  obtain ⟨H, hH⟩ : ∃ H, Hid (H = w.heap.size) := ⟨_, hid rfl⟩
  have A0 := hid (A.addBlk [.int .i64 s.no, txv, .bool s.long] 74)
  rw [← hH.out] at A0
  have WC := hid (words_any (B := H) (v := txv) (tx := s.tx) (long := s.long) A0.out (by rw [cell_at A0.out.1.2.1]; rfl) (by rw [cell_at A0.out.1.2.1]; rfl) (reads_own A0.out.tail.tail) (by have := hs.2; omega))
  rw [readM_eq]
  have hz := wds_wsz s.tx s.long
  have HC3 : Hid (∀ X W, All (X ++ (gtL G P s tl b m txv wsv tov ++ cs)) W → W.cell? ⟨G, 3, none⟩ = some (ptr P)) := hid (fun X W h => Gt.cell h.app 3)
  have E' := E.app (gtL G P s tl b m txv wsv tov)
  clear A hs E
  generalize wdsM s.tx s.long = q at *
  obtain ⟨ws, er⟩ := q
  dsimp only at WC hz ⊢
  obtain ⟨CS, hCS⟩ : ∃ CS, Hid (CS = gtL G P s tl b m txv wsv tov ++ cs) := ⟨_, hid rfl⟩
  rw [← hCS.out] at A0 WC HC3 E' ⊢
  clear hCS
  by_cases he : er ≠ 0
  · rw [if_pos he]
    have he' : (((er : Int)) != 0) = true := by simp; omega
    unfold rdG
    clear he hz
    go_enter Tryz.func53, Tryz.ntmps53
    go_upto_region 1 with fail
    simp only [← hH.out]
    generalize w.alloc (.cells #[.int .i64 s.no, txv, .bool s.long] 74) = w1 at *
    go_wp2_with (go_at_call 86; refine WC.out.mono ?_; rintro e w2 ⟨v', rfl, A2⟩; have A3 := hid A2.tail.tail; obtain ⟨ao', c', rfl⟩ := owns_form A2.1.2.1; clear A2)
    go_ret2
    exact ⟨rfl, A3.out⟩
  · have he0 : er = 0 := by omega
    subst he0
    rw [if_neg he]
    clear he
    cases ws with
    | nil =>
      unfold wishR rdG
      dsimp only
      clear hz
      go_enter Tryz.func53, Tryz.ntmps53
      go_upto_region 1 with fail
      simp only [← hH.out]
      generalize w.alloc (.cells #[.int .i64 s.no, txv, .bool s.long] 74) = w1 at *
      go_wp2_with (go_at_call 86; refine WC.out.mono ?_; rintro e w2 ⟨v', rfl, A2⟩; have A3 := hid A2.tail.tail; obtain ⟨ao', c', rfl⟩ := owns_form A2.1.2.1; simp only [txW, List.map_nil, List.length_nil]; clear A2)
      go_ret2
      exact ⟨rfl, A3.out⟩
    | cons x r =>
      have RW : Hid (∀ v' W, All (ownC 9 v' (txW (x :: r)) :: blkC H [.int .i64 s.no, txv, .bool s.long] 74 :: CS) W → Calls Tryz.prog 87 #[.pointer (some ⟨P, 0, none⟩), v'] W fun e w' => e = .returned (rdG P (wishR (x :: r))) ∧ All (ownC 9 v' (txW (x :: r)) :: blkC H [.int .i64 s.no, txv, .bool s.long] 74 :: CS) w') := hid (fun v' W h => by
        have E2 := (E'.cons (blkC H [.int .i64 s.no, txv, .bool s.long] 74)).cons (ownC 9 v' (txW (x :: r)))
        exact readWish_any h (fun W' h' => rt_own h') E2.V E2.T E2.W (by have : (x :: r).length ≤ wsz (x :: r) := by (unfold wsz; omega)
                                                                         omega) (fun y hy => by have := wsz_mem hy; omega))
      obtain ⟨va, vb, hq⟩ : ∃ va vb, rdG P (wishR (x :: r)) = .tuple #[va, .int .i64 vb] := by
        generalize wishR (x :: r) = qq
        cases qq <;> exact ⟨_, _, rfl⟩
      rw [hq] at RW ⊢
      have hn0 : (((x :: r).length : Int) == 0) = false := by simp; omega
      have hlen : (txW (x :: r)).length = (x :: r).length := txW_length _
      clear hz hq
      go_enter Tryz.func53, Tryz.ntmps53
      go_upto_region 1 with fail
      simp only [← hH.out]
      generalize w.alloc (.cells #[.int .i64 s.no, txv, .bool s.long] 74) = w1 at *
      go_wp2_with fail
      refine WC.out.mono ?_
      rintro e w2 ⟨v', rfl, A2⟩
      obtain ⟨ao', c', rfl⟩ := owns_form A2.1.2.1
      simp only [hlen] at A2 ⊢
      have RW2 := hid (RW.out _ _ A2)
      have c3 := HC3.out [ownC 9 (.slice ao' (x :: r).length c') (txW (x :: r)), blkC H [.int .i64 s.no, txv, .bool s.long] 74] w2 A2
      clear A2 RW WC HC3 hlen
      generalize (x :: r).length = nl at *
      go_wp2_with (go_at_call 87; refine RW2.out.mono ?_; rintro e w3 ⟨rfl, A4⟩; have A5 := hid A4.tail.tail; clear A4)
      go_ret2
      exact ⟨rfl, A5.out⟩
end Go.Proofs.YtdhkdniddjnigaaGreatDoor
