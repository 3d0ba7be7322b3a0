import Derived.Test.YtdhkdniddjnigaaGreatDoorHe
import Derived.Test.YtdhkdniddjnigaaGreatDoorHd
import Derived.Test.YtdhkdniddjnigaaGreatDoorHa
import Derived.Test.YtdhkdniddjnigaaGreatDoorE5
namespace Go.Proofs.YtdhkdniddjnigaaGreatDoor
open Go.RowKit
set_option linter.unusedVariables false

/-- A part is let go. -/
theorem Gt.drop2 {G P : Nat} {s : Gs} {tl : List UInt8} {b m : Int} {X Y : Comp} {cs : List Comp} {w : World} (h : Gt G P s tl b m (X :: Y :: cs) w) : Gt G P s tl b m (X :: cs) w := by
  obtain ⟨x, y, z, h⟩ := h
  exact ⟨x, y, z, (h.perm ((List.Perm.append_left _ (List.Perm.swap _ _ _)).trans List.perm_middle)).tail⟩
theorem Gt.setUw {G P : Nat} {s : Gs} {tl : List UInt8} {b m : Int} {cs : List Comp} {w : World} (h : Gt G P s tl b m cs w) (u : Int) : Gt G P { s with uw := u } tl b m cs (w.setCell ⟨G, 4, none⟩ (.int .i64 u)) := by
  obtain ⟨x, y, z, h⟩ := h
  exact ⟨x, y, z, h.setBlk 4 (.int .i64 u)⟩
/-- A line is told. -/
theorem tell_gt {G P : Nat} {s : Gs} {tl : List UInt8} {b m : Int} {cs : List Comp} {w : World} {no : Int} {v : Value} {l : Ws} (h : Gt G P s tl b m cs w) (hV : ∀ W, All cs W → Vars W) (hR : ∀ W, All cs W → Rt W v l) (h0 : 0 ≤ no) (h1 : no ≤ 4611686018427387904) (hl : l.length ≤ 1000) (hJ : lenJ (Lib.itoa no :: l) ≤ 100000000) (hJ2 : (joinW (Lib.itoa no :: l)).length ≤ 1000000000) (ht : tl.length ≤ 100000000000000) :
    Calls Tryz.prog 62 #[.pointer (some ⟨G, 3, none⟩), .int .i64 no, v] w fun e w' => e = .returned (.tuple #[]) ∧ Gt G P s (tl ++ lnB no l) b m cs w' := by
  obtain ⟨txv, wsv, tov, A⟩ := h
  refine (tell_any (A.perm (List.Perm.cons _ (List.Perm.swap _ _ _))) (fun W hW => hV W (hW.tail.tail.tail.tail.tail)) (fun W hW => hR W (hW.tail.tail.tail.tail.tail)) h0 h1 hl hJ hJ2 ht).mono ?_
  rintro e w' ⟨rfl, tov', A'⟩
  exact ⟨rfl, txv, wsv, tov', A'.perm (List.Perm.cons _ (List.Perm.swap _ _ _))⟩
/-- What a result without anything is in words. -/
def rw0 : Ws := resA 0 0 []
theorem chk0 : chkW 0 0 [] = 0 := by decide +kernel
theorem dec0 : Lib.decDigits 0 = [48] := by rw [Lib.decDigits, dif_pos (by omega)]; rfl
theorem rw0_eq : rw0 = [doneB, [48], [48]] := by
  have : rw0 = resW 0 0 [] := by unfold rw0 resA; rw [if_neg (by rw [chk0]; simp)]; rfl
  rw [this]
  unfold resW
  simp [dec0, cdN, doneB]
/-- The words of an answer. -/
def ansW (rd : Bool) (nd n : Int) : Ws := (if rd then [toldB, Lib.itoa nd, Lib.itoa n] else [doneB, Lib.itoa n]) ++ rw0
/-- What an answer does. -/
def ansM (m : Int) (s : Gs) (rd : Bool) (nd n : Int) : Go := ⟨(goM m { s with uw := 0 }).s, (goM m { s with uw := 0 }).ms, lnB s.uw (ansW rd nd n) ++ (goM m { s with uw := 0 }).tl⟩
theorem ansW_len {rd : Bool} {nd n : Int} (n0 : 0 ≤ n) (n1 : n ≤ 9223372036854775807) (d0 : 0 ≤ nd) (d1 : nd ≤ 9223372036854775807) {no : Int} (u0 : 0 ≤ no) (u1 : no ≤ 9223372036854775807) : (ansW rd nd n).length ≤ 1000 ∧ lenJ (Lib.itoa no :: ansW rd nd n) ≤ 100000 := by
  have h1 := itoa_len n0 n1
  have h2 := itoa_len d0 d1
  have h3 := itoa_len u0 u1
  unfold ansW
  rw [rw0_eq]
  cases rd <;> simp only [if_true, Bool.false_eq_true, if_false, List.cons_append, List.nil_append, List.length_cons, List.length_nil, lenJ, List.map_cons, List.map_nil, List.sum_cons, List.sum_nil, doneB, toldB] <;> omega
set_option maxHeartbeats 3200000 in
set_option maxRecDepth 1000000 in
theorem answer_gt {G P : Nat} {s : Gs} {tl : List UInt8} {b m : Int} {cs : List Comp} {w : World} {q n nd : Int} (rd : Bool) (h : Gt G P s tl b m cs w) (E : Evs cs) (hD : ∀ W, All cs W → Cd W) (I : PxI s.x m s.n1 s.n2) (hno : ∀ q ∈ s.ws, 0 ≤ q.no ∧ q.no ≤ 4611686018427387904) (hn : s.ws.length ≤ 16) (hu : 0 ≤ s.uw ∧ s.uw ≤ 4611686018427387904) (n0 : 0 ≤ n ∧ n ≤ 4611686018427387904) (d0 : 0 ≤ nd ∧ nd ≤ 4611686018427387904) (ht : tl.length ≤ 40000000000000) :
    Calls Tryz.prog 37 #[.pointer (some ⟨G, 3, none⟩), .agg #[.bool rd, .int .i64 q, .int .i64 n, .int .i64 nd, .int .i64 0, .int .i64 0, .slice none 0 0]] w fun e w' => ∃ v, e = .returned v ∧ Gt G P (ansM m s rd nd n).s (tl ++ (ansM m s rd nd n).tl) b m (msC v (ansM m s rd nd n).ms :: cs) w' := by
  obtain ⟨H, hH⟩ : ∃ H, Hid (H = w.heap.size) := ⟨_, hid rfl⟩
  obtain ⟨txv, wsv, tov, A⟩ := h
  obtain ⟨PC, hPC⟩ : ∃ P : List Value, Hid (P = [.bool rd, .int .i64 q, .int .i64 n, .int .i64 nd, .int .i64 0, .int .i64 0, .slice none 0 0]) := ⟨_, hid rfl⟩
  have A1 := hid (A.addBlk PC 97)
  rw [← hH.out] at A1
  have e1 : PC.toArray = #[.bool rd, .int .i64 q, .int .i64 n, .int .i64 nd, .int .i64 0, .int .i64 0, .slice none 0 0] := by rw [hPC.out]
  rw [e1] at A1
  have CE : Hid (∀ W cs', All (blkC H PC 97 :: cs') W → W.cell? ⟨H, 0, none⟩ = some (.bool rd) ∧ W.cell? ⟨H, 2, none⟩ = some (.int .i64 n) ∧ W.cell? ⟨H, 3, none⟩ = some (.int .i64 nd) ∧ W.cell? ⟨H, 4, none⟩ = some (.int .i64 0) ∧ W.cell? ⟨H, 5, none⟩ = some (.int .i64 0) ∧ W.cell? ⟨H, 6, none⟩ = some (.slice none 0 0)) := hid (fun W cs' k => by
    rw [hPC.out] at k
    refine ⟨?_, ?_, ?_, ?_, ?_, ?_⟩ <;> exact (cell_at k.1.2.1 _).trans rfl)
  have C60 := hid (Result_any (c := 0) (n := 0) (s := .slice none 0 0) (l := []) A1.out (fun W _ => rt_nil W) (fun W k => E.V W k.tail.app) (fun W k => hD W k.tail.app) (by simp))
  obtain ⟨c0, c2, c3, c4, c5, c6⟩ := CE.out _ _ A1.out
  clear e1 A
  obtain ⟨AW, hAW⟩ : ∃ AW, Hid (AW = ansW rd nd n) := ⟨_, hid rfl⟩
  have eM : ansM m s rd nd n = ⟨(goM m { s with uw := 0 }).s, (goM m { s with uw := 0 }).ms, lnB s.uw AW ++ (goM m { s with uw := 0 }).tl⟩ := by unfold ansM; rw [hAW.out]
  rw [eM]
  have LA := hid (ansW_len (rd := rd) n0.1 (by omega) d0.1 (by omega) hu.1 (by omega))
  rw [← hAW.out] at LA
  clear eM
  go_enter Tryz.func37, Tryz.ntmps37
  go_upto_region 1 with fail
  simp only [← hH.out]
  generalize w.alloc (.cells #[.bool rd, .int .i64 q, .int .i64 n, .int .i64 nd, .int .i64 0, .int .i64 0, .slice none 0 0] 97) = w1 at *
  go_wp2_with fail
  refine C60.out.mono ?_
  rintro e w2 ⟨v5, rfl, hA2⟩
  obtain ⟨a5, k5, rfl⟩ := owns_form hA2.1.2.1
  rw [chk0]
  rw [txW_length] at hA2 ⊢
  have A2 := hid hA2
  clear hA2 C60 A1 c0 c2 c3 c4 c5 c6
  obtain ⟨c0, c2, c3, _, _, _⟩ := CE.out _ _ A2.out.tail
  have HV : Hid (∀ W ds, All (ds ++ (gtL G P s tl b m txv wsv tov ++ cs)) W → Vars W) := hid (fun W ds k => E.V W k.app.app)
  have C61 := hid (Itoa_any (HV.out w2 [_, _] A2.out) n0.1 (by omega))
  go_wp2_with fail
  refine C61.out.mono ?_
  rintro e w3 ⟨rfl, hB⟩
  have A3 := hid (A2.out.later hB)
  obtain ⟨b3, hb3⟩ : ∃ b, Hid (b = w3.heap.size) := ⟨_, hid rfl⟩
  have A4 : Hid (All (ownC 9 (.slice (some ⟨b3, 0, none⟩) 2 2) (txW [doneB, Lib.itoa n]) :: ownC 9 (.slice a5 rw0.length k5) (txW rw0) :: blkC H PC 97 :: (gtL G P s tl b m txv wsv tov ++ cs)) (w3.alloc (.cells #[.string ⟨#[100, 111, 110, 101]⟩, .string ⟨(Lib.itoa n).toArray⟩] 9))) := hid (by rw [hb3.out]; exact own_new A3.out [doneB, Lib.itoa n] (by simp))
  clear hB A2 C61 c0 c2 c3
  have hrw : (resA 0 0 []).length = rw0.length := rfl
  rw [hrw]
  go_upto_region 3 with fail
  simp only [← hb3.out]
  generalize w3.alloc (.cells #[.string ⟨#[100, 111, 110, 101]⟩, .string ⟨(Lib.itoa n).toArray⟩] 9) = w4 at *
  obtain ⟨c0, c2, c3, _, _, _⟩ := CE.out _ _ A4.out.tail.tail
  clear hrw A3
  generalize hrl : rw0.length = rl at *
  obtain ⟨REST, hREST⟩ : ∃ R, Hid (R = ownC 9 (.slice a5 rl k5) (txW rw0) :: blkC H PC 97 :: (gtL G P s tl b m txv wsv tov ++ cs)) := ⟨_, hid rfl⟩
  rw [← hREST.out] at A4
  have CR : Hid (∀ W c, All (c :: REST) W → W.cell? ⟨H, 3, none⟩ = some (.int .i64 nd) ∧ W.cell? ⟨H, 2, none⟩ = some (.int .i64 n)) := hid (fun W c k => by
    rw [hREST.out] at k
    obtain ⟨_, h2, h3, _⟩ := CE.out _ _ k.tail.tail
    exact ⟨h3, h2⟩)
  have VR : Hid (∀ W ds, All (ds ++ REST) W → Vars W) := hid (fun W ds k => by
    have k := k.app
    rw [hREST.out] at k
    exact HV.out W [_, _] k)
  have TAIL : Hid (∀ (W6 : World) (b6 : Nat) (wl : Ws) (n6 : Nat), n6 = wl.length → wl ++ rw0 = AW → All (ownC 9 (.slice (some ⟨b6, 0, none⟩) n6 n6) (txW wl) :: REST) W6 → ∃ ao c n7 w7, (Builtin.append_ #[43, 43] 43 #[.slice (some ⟨b6, 0, none⟩) n6 n6, .slice a5 rl k5]).run Tryz.prog W6 = .ok (.slice ao n7 c) w7 ∧ W6.cell? ⟨G, 4, none⟩ = some (.int .i64 s.uw) ∧ w7.cell? ⟨G, 4, none⟩ = some (.int .i64 s.uw) ∧ Calls Tryz.prog 62 #[.pointer (some ⟨G, 3, none⟩), .int .i64 s.uw, .slice ao n7 c] w7 fun e w8 => e = .returned (.tuple #[]) ∧ w8.cell? ⟨G, 4, none⟩ = some (.int .i64 s.uw) ∧ w8.frozen? ⟨G, 4, none⟩ = false ∧ Calls Tryz.prog 55 #[.pointer (some ⟨G, 3, none⟩)] (w8.setCell ⟨G, 4, none⟩ (.int .i64 0)) fun e w' => ∃ v, e = .returned v ∧ Gt G P (goM m { s with uw := 0 }).s (tl ++ (lnB s.uw AW ++ (goM m { s with uw := 0 }).tl)) b m (msC v (goM m { s with uw := 0 }).ms :: cs) w') := hid (by
    intro W6 b6 wl n6 hn6 hwl hA
    have hAR := hA
    rw [hREST.out] at hAR
    have hrt : Rt W6 (.slice a5 rl k5) rw0 := rt_own hAR.tail
    have hsum : wl.length + rw0.length ≤ 1000 := by
      have := LA.out.1
      rw [← hwl, List.length_append] at this
      exact this
    rw [hn6] at hA ⊢
    obtain ⟨ao, c, w7, hr, A7⟩ := appR hA hrt (by omega)
    rw [hwl, hREST.out] at A7
    have G7 : Gt G P s tl b m (ownC 9 (.slice ao (wl.length + rw0.length) c) (txW AW) :: ownC 9 (.slice a5 rl k5) (txW rw0) :: blkC H PC 97 :: cs) w7 := ⟨txv, wsv, tov, A7.perm (List.perm_append_comm_assoc [_, _, _] _ _)⟩
    have c7 : w7.cell? ⟨G, 4, none⟩ = some (.int .i64 s.uw) := by
      obtain ⟨_, _, _, k⟩ := G7
      exact Gt.cell k 4
    have c6 : W6.cell? ⟨G, 4, none⟩ = some (.int .i64 s.uw) := by
      have k : All (gtL G P s tl b m txv wsv tov ++ (ownC 9 (.slice (some ⟨b6, 0, none⟩) n6 n6) (txW wl) :: ownC 9 (.slice a5 rl k5) (txW rw0) :: blkC H PC 97 :: cs)) W6 := hAR.perm (List.perm_append_comm_assoc [_, _, _] _ _)
      exact Gt.cell k 4
    refine ⟨ao, c, _, w7, hr, c6, c7, ?_⟩
    refine (tell_gt G7 (fun W k => E.V W k.tail.tail.tail) (fun W k => rt_own k) hu.1 hu.2 LA.out.1 (by have := LA.out.2; omega) (Nat.le_trans (joinW_le _) (by have := LA.out.2; omega)) (by omega)).mono ?_
    rintro e w8 ⟨rfl, G8⟩
    obtain ⟨x8, y8, z8, A8⟩ := G8
    refine ⟨rfl, Gt.cell A8 4, Gt.free A8 4, ?_⟩
    have G9 := Gt.setUw (G := G) ⟨x8, y8, z8, A8⟩ 0
    refine (goOn_gt G9 (((E.cons _).cons _).cons _) I hno hn (by
      have h1 := joinW_le (Lib.itoa s.uw :: AW)
      have h2 := LA.out.2
      rw [List.length_append]
      unfold lnB
      rw [List.length_append]
      simp only [List.length_cons, List.length_nil]
      omega)).mono ?_
    rintro e w' ⟨v, rfl, G10⟩
    refine ⟨v, rfl, ?_⟩
    rw [← List.append_assoc]
    exact G10.drop2.drop2.drop2)
  cases rd with
  | false =>
    have hW : [doneB, Lib.itoa n] ++ rw0 = AW := hAW.out.symm
    obtain ⟨ao7, c7, n7, w7, hr7, k6, k7, T62⟩ := TAIL.out _ _ _ 2 rfl hW A4.out.drew
    have R7 := hid hr7
    have T62 := hid T62
    clear A4 hr7 TAIL CE c2 c3
    go_wp2_with fail
    go_region_held3 (fun W => W.cell? ⟨G, 4, none⟩ = some (.int .i64 s.uw)) (assumption) (first
      | (refine step_append_run (by rfl) _ _ 43 (by rfl) _ _ _ _ (by rfl) (by rfl) R7.out ?_)
      | (go_at_call 62; refine T62.out.mono ?_; rintro e w8 ⟨rfl, k8, f8, T55'⟩; have T55 := hid T55'; clear T55'))
    go_wp2_with fail
    refine T55.out.mono ?_
    rintro e w9 ⟨v9, rfl, G9⟩
    have G9 := hid G9
    go_wp2
    go_ret
    exact ⟨_, rfl, G9.out⟩
  | true =>
    go_wp2_with fail
    have C61b : Hid (Calls Tryz.prog 61 #[.int .i64 nd] w4.drew fun e w' => e = .returned (.string ⟨(Lib.itoa nd).toArray⟩) ∧ w'.cell? ⟨H, 3, none⟩ = some (.int .i64 nd) ∧ w'.cell? ⟨H, 2, none⟩ = some (.int .i64 n) ∧ Calls Tryz.prog 61 #[.int .i64 n] w' fun e w'' => e = .returned (.string ⟨(Lib.itoa n).toArray⟩) ∧ w''.cell? ⟨H, 3, none⟩ = some (.int .i64 nd) ∧ w''.cell? ⟨H, 2, none⟩ = some (.int .i64 n) ∧ (w''.alloc (.cells #[.string ⟨#[116, 111, 108, 100]⟩, .string ⟨(Lib.itoa nd).toArray⟩, .string ⟨(Lib.itoa n).toArray⟩] 9)).cell? ⟨H, 3, none⟩ = some (.int .i64 nd) ∧ (w''.alloc (.cells #[.string ⟨#[116, 111, 108, 100]⟩, .string ⟨(Lib.itoa nd).toArray⟩, .string ⟨(Lib.itoa n).toArray⟩] 9)).cell? ⟨H, 2, none⟩ = some (.int .i64 n) ∧ Hid (All (ownC 9 (.slice (some ⟨w''.heap.size, 0, none⟩) 3 3) (txW [toldB, Lib.itoa nd, Lib.itoa n]) :: REST) (w''.alloc (.cells #[.string ⟨#[116, 111, 108, 100]⟩, .string ⟨(Lib.itoa nd).toArray⟩, .string ⟨(Lib.itoa n).toArray⟩] 9)))) := hid (by
      refine (Itoa_any (VR.out _ [_] A4.out.drew) d0.1 (by omega)).mono ?_
      rintro e w' ⟨rfl, hB⟩
      have k := A4.out.drew.later hB
      obtain ⟨k1, k2⟩ := CR.out _ _ k
      refine ⟨rfl, k1, k2, ?_⟩
      refine (Itoa_any (VR.out _ [_] k) n0.1 (by omega)).mono ?_
      rintro e w'' ⟨rfl, hB2⟩
      have k' := k.later hB2
      obtain ⟨k3, k4⟩ := CR.out _ _ k'
      have k'' : All (ownC 9 (.slice (some ⟨w''.heap.size, 0, none⟩) 3 3) (txW [toldB, Lib.itoa nd, Lib.itoa n]) :: REST) (w''.alloc (.cells #[.string ⟨#[116, 111, 108, 100]⟩, .string ⟨(Lib.itoa nd).toArray⟩, .string ⟨(Lib.itoa n).toArray⟩] 9)) := own_new k'.tail [toldB, Lib.itoa nd, Lib.itoa n] (by simp)
      obtain ⟨k5, k6⟩ := CR.out _ _ k''
      exact ⟨rfl, k3, k4, k5, k6, hid k''⟩)
    obtain ⟨d3, d2⟩ := CR.out _ _ A4.out.drew
    go_region_held3 (fun W => W.cell? ⟨H, 3, none⟩ = some (.int .i64 nd) ∧ W.cell? ⟨H, 2, none⟩ = some (.int .i64 n)) ((constructor <;> assumption)) (first
      | (go_at_call 61; refine C61b.out.mono ?_; rintro e w5 ⟨rfl, q1, q2, OU'⟩; have OU := hid OU'; clear OU')
      | (go_at_call 61; refine OU.out.mono ?_; rintro e w6 ⟨rfl, q3, q4, q5, q6, A6⟩))
    have hW : [toldB, Lib.itoa nd, Lib.itoa n] ++ rw0 = AW := hAW.out.symm
    obtain ⟨ao7, c7, n7, w7, hr7, k6, k7, T62⟩ := TAIL.out _ _ _ 3 rfl hW A6.out.drew
    have R7 := hid hr7
    have T62 := hid T62
    clear A4 A6 hr7 TAIL CE c0 c2 c3 d2 d3 q1 q2 q3 q4 q5 q6 C61b OU
    generalize w6.heap.size = b6 at *
    generalize (w6.alloc (.cells #[.string ⟨#[116, 111, 108, 100]⟩, .string ⟨(Lib.itoa nd).toArray⟩, .string ⟨(Lib.itoa n).toArray⟩] 9)) = w6b at *
    go_wp2_with fail
    go_region_held3 (fun W => W.cell? ⟨G, 4, none⟩ = some (.int .i64 s.uw)) (assumption) (first
      | (refine step_append_run (by rfl) _ _ 43 (by rfl) _ _ _ _ (by rfl) (by rfl) R7.out ?_)
      | (go_at_call 62; refine T62.out.mono ?_; rintro e w8 ⟨rfl, k8, f8, T55'⟩; have T55 := hid T55'; clear T55'))
    go_wp2_with fail
    refine T55.out.mono ?_
    rintro e w9 ⟨v9, rfl, G9⟩
    have G9 := hid G9
    go_wp2
    go_ret
    exact ⟨_, rfl, G9.out⟩
end Go.Proofs.YtdhkdniddjnigaaGreatDoor
