import Derived.Test.YtdhkdniddjnigaaGreatDoorJ18
import Derived.Test.YtdhkdniddjnigaaGreatDoorJ16
import Derived.Test.YtdhkdniddjnigaaGreatDoorJ19
import Derived.Test.YtdhkdniddjnigaaGreatDoorJ12
namespace Go.Proofs.YtdhkdniddjnigaaGreatDoor
open Go.RowKit
set_option linter.unusedVariables false

/-- A word's code. -/
def codeW (x : List UInt8) : Option Nat := findW x 0 cdN
def codeA (x : List UInt8) : Value := .tuple #[.int .i64 (((codeW x).getD 0 : Nat) : Int), .bool (codeW x).isSome]

/-- What numberAt answers. -/
def natA (l : Ws) (p : Nat) : Value := if l.length ≤ p then .tuple #[.int .i64 0, .int .i64 162] else match numW (l.getD p []) with
  | none => .tuple #[.int .i64 0, .int .i64 163]
  | some n => .tuple #[.int .i64 (n : Int), .int .i64 0]

end Go.Proofs.YtdhkdniddjnigaaGreatDoor

namespace Go.Proofs.YtdhkdniddjnigaaGreatDoor
open Go.RowKit
set_option linter.unusedVariables false

theorem Tryz.size24 : (Tryz.prog.info? 45).map (·.size) = some 3 := by kernel_rfl
theorem ret_cell3 {fn : Func} (hf : fn.results = #[.cell 2 45, .tmp 3, .tmp 4]) {R : Ending → World → Prop} {a : Act} {w : World} {b : Nat} {c n v k e : Value} (ht : a.tmps.getD 2 undef = ptr b) (h3 : a.tmps.getD 3 undef = k) (h4 : a.tmps.getD 4 undef = e) (hg : w.heap[b]? = some (.cells #[c, n, v] 45 (0, 0))) (hd : a.defers = []) (hR : R (.returned (.tuple #[.agg #[c, n, v], k, e])) w) : bodyPost Tryz.prog fn R .ret a w := by
  refine bodyPost_ret (v := .tuple #[.agg #[c, n, v], k, e]) ?_ hd hR
  have hp : a.tmps[2]?.getD undef = ptr b := by rw [← ht]; simp
  have hp3 : a.tmps[3]?.getD undef = k := by rw [← h3]; simp
  have hp4 : a.tmps[4]?.getD undef = e := by rw [← h4]; simp
  simp [results, hf, hp, hp3, hp4, asAddr, run_loadVar_row w b 45 45 #[c, n, v] (0, 0) _ hg Tryz.underlying45 rfl (by rw [Tryz.size24]; rfl)]

/-- What is read: the code, the number, the items, how many words, the error. -/
structure RR where
  c : Int
  n : Int
  items : Ws
  k : Nat
  e : Int
def RR.bad (e : Int) : RR := ⟨0, 0, [], 0, e⟩
def RRPost (r : RR) (cs : List Comp) (en : Ending) (w' : World) : Prop :=
  ∃ v, en = .returned (.tuple #[resV r.c r.n v, .int .i64 (r.k : Int), .int .i64 r.e]) ∧ All (ownC 9 v (txW r.items) :: cs) w'
/-- A result whose first word is that of Done. -/
def readD (l : Ws) : RR :=
  if l.length < 2 then .bad 162 else match numW (l.getD 1 []) with
  | none => .bad 163
  | some n => if l.length < 3 then .bad 162 else match numW (l.getD 2 []) with
    | none => .bad 163
    | some m => if l.length < m + 3 then .bad 162 else if chkW 0 n ((l.drop 3).take m) ≠ 0 then .bad (chkW 0 n ((l.drop 3).take m)) else ⟨0, n, (l.drop 3).take m, 3 + m, 0⟩
def readR (l : Ws) : RR := match l with
  | [] => .bad 162
  | x :: _ => match codeW x with
    | none => .bad 163
    | some 0 => readD l
    | some (c + 1) => ⟨(c : Int) + 1, 0, [], 1, 0⟩

theorem zero_blk {B : Nat} {cs : List Comp} {w : World} (h : All (blkC B [.int .i64 0, .int .i64 0, .slice none 0 0] 45 :: cs) w) : (w.cell? ⟨B, 0, none⟩ = some (.int .i64 0) ∧ w.cell? ⟨B, 1, none⟩ = some (.int .i64 0) ∧ w.cell? ⟨B, 2, none⟩ = some (.slice none 0 0)) ∧ w.frozen? ⟨B, 0, none⟩ = false ∧ w.frozen? ⟨B, 1, none⟩ = false ∧ w.frozen? ⟨B, 2, none⟩ = false ∧ B < w.heap.size := by
  have hb := h.1.2.1
  exact ⟨⟨by rw [cell_at hb]; rfl, by rw [cell_at hb]; rfl, by rw [cell_at hb]; rfl⟩, free_at hb 0, free_at hb 1, free_at hb 2, h.1.2.2 B (by simp [blkC])⟩

theorem set3 {B : Nat} {a b c x y z : Value} {cs : List Comp} {w : World} (A : All (blkC B [a, b, c] 45 :: cs) w) : All (blkC B [x, y, z] 45 :: cs) (((w.setCell ⟨B, 0, none⟩ x).setCell ⟨B, 1, none⟩ y).setCell ⟨B, 2, none⟩ z) :=
  ((A.setBlk 0 x).setBlk 1 y).setBlk 2 z

theorem Tryz.elem22 (W : World) : (sizeOf (Tryz.prog.elem 43)).run Tryz.prog W = .ok 1 W := by kernel_rfl
theorem readR_nil : readR [] = .bad 162 := rfl
theorem readR_cons {l : Ws} (h : l ≠ []) : readR l = match codeW (l.getD 0 []) with
    | none => .bad 163
    | some 0 => readD l
    | some (c + 1) => ⟨(c : Int) + 1, 0, [], 1, 0⟩ := by
  cases l with
  | nil => exact absurd rfl h
  | cons x r => rfl

end Go.Proofs.YtdhkdniddjnigaaGreatDoor

namespace Go.Proofs.YtdhkdniddjnigaaGreatDoor
open Go.RowKit
set_option linter.unusedVariables false

/-- A result's words. -/
def resW (c : Nat) (n : Nat) (l : Ws) : Ws := cdN.getD c [] :: (if c = 0 then Lib.decDigits n :: Lib.decDigits l.length :: l else [])
def resA (c n : Int) (l : Ws) : Ws := if chkW c n l ≠ 0 then [] else resW c.toNat n.toNat l
theorem chk_zero {c n : Int} {l : Ws} (h : chkW c n l = 0) : 0 ≤ c ∧ c ≤ 4 ∧ (c ≠ 0 → n = 0 ∧ l = []) ∧ 0 ≤ n ∧ n ≤ 1099511627776 ∧ l.length ≤ 8 ∧ ∀ x ∈ l, x.length ≤ 64 := by
  unfold chkW chkX at h
  split at h
  · simp at h
  rename_i h1
  split at h
  · simp at h
  rename_i h2
  split at h
  · simp at h
  rename_i h3
  split at h
  · simp at h
  rename_i h4
  split at h
  · simp at h
  rename_i h5
  rw [List.length_map] at h4
  refine ⟨by omega, by omega, fun hc => ?_, by omega, by omega, by omega, fun x hx => ?_⟩
  · refine ⟨Classical.byContradiction fun hn => h2 ⟨hc, Or.inl hn⟩, Classical.byContradiction fun hn => h2 ⟨hc, Or.inr (by simpa using hn)⟩⟩
  · apply Classical.byContradiction
    intro hn
    exact h5 ⟨mkB x, List.mem_map.2 ⟨x, hx, rfl⟩, by simp [ByteArray.size]; omega⟩
theorem blk3 {B : Nat} {x y z : Value} {cs : List Comp} {w : World} (h : All (blkC B [x, y, z] 45 :: cs) w) : w.cell? ⟨B, 0, none⟩ = some x ∧ w.cell? ⟨B, 1, none⟩ = some y ∧ w.cell? ⟨B, 2, none⟩ = some z := by
  have hb := h.1.2.1
  exact ⟨by rw [cell_at hb]; rfl, by rw [cell_at hb]; rfl, by rw [cell_at hb]; rfl⟩
set_option maxHeartbeats 1600000 in
set_option maxRecDepth 1000000 in
theorem Result_any {c n : Int} {s : Value} {l : Ws} {cs : List Comp} {w : World} (A : All cs w) (hR : ∀ W, All cs W → Rt W s l) (hV : ∀ W, All cs W → Vars W) (hD : ∀ W, All cs W → Cd W) (hl : l.length ≤ 140737488355328) :
    Calls Tryz.prog 60 #[resV c n s] w (WRPost (resA c n l) (chkW c n l) cs) := by
  obtain ⟨ao, cc, rfl⟩ := (hR w A).form
  have A0 := hid (A.addBlk [.int .i64 c, .int .i64 n, .slice ao l.length cc] 45)
  have CK := hid (check12 c n (hR _ A0.out.tail) hl)
  by_cases hX : chkW c n l ≠ 0
  · have e1 : resA c n l = [] := by unfold resA; rw [if_pos hX]
    rw [e1]
    have hX' : (chkW c n l != 0) = true := by simpa using hX
    clear e1 hX hR hV hD A hl
    generalize chkW c n l = XX at *
    generalize l.length = nl at *
    go_enter Tryz.func60, Tryz.ntmps60
    go_wp2_with (go_at_call 98; refine CK.out.mono ?_; rintro e w1 ⟨rfl, B1⟩; have A1 := hid (A0.out.later B1); clear B1)
    go_ret2
    exact ⟨_, rfl, All.addNil A1.out.tail⟩
  have hX0 : chkW c n l = 0 := Classical.byContradiction hX
  have e1 : resA c n l = resW c.toNat n.toNat l := by unfold resA; rw [if_neg hX]
  obtain ⟨hc0, hc4, hcn, hn0, hn1, hl8, hx64⟩ := chk_zero hX0
  rw [e1]
  rw [hX0] at CK ⊢
  clear hX hX0 e1 A hl hx64
  by_cases hz : c = 0
  · subst hz
    obtain ⟨m, rfl⟩ := Int.eq_ofNat_of_zero_le hn0
    have e2 : resW (0 : Int).toNat (m : Int).toNat l = cdN.getD 0 [] :: Lib.decDigits m :: Lib.decDigits l.length :: l := by rw [Int.toNat_natCast]; rfl
    rw [e2]
    clear e2 hc0 hc4 hcn hn0
    have IT : Hid (∀ (k : Nat) ds W, k ≤ 1099511627776 → All ds W → Vars W → Calls Tryz.prog 61 #[.int .i64 (k : Int)] W fun e w' => e = .returned (.string ⟨(Lib.decDigits k).toArray⟩) ∧ All ds w') := hid (fun k ds W hk hA hVw => by
      have := Itoa_any (v := (k : Int)) hVw (by omega) (by omega)
      rw [itoa_nat] at this
      exact this.mono fun e w' ⟨he, hb⟩ => ⟨he, hA.later hb⟩)
    have C14 : Hid (∀ W, All (blkC w.heap.size [.int .i64 0, .int .i64 (m : Int), .slice ao l.length cc] 45 :: cs) W → Calls Tryz.prog 61 #[.int .i64 (l.length : Int)] W.drew fun e w' => e = .returned (.string ⟨(Lib.decDigits l.length).toArray⟩) ∧ w'.cell? ⟨w.heap.size, 2, none⟩ = some (.slice ao l.length cc) ∧ Hid (Calls Tryz.prog 99 #[.string ⟨(Lib.decDigits l.length).toArray⟩, .slice ao l.length cc] w' fun e w2 => ∃ v', e = .returned v' ∧ All (ownC 9 v' (txW (Lib.decDigits l.length :: l)) :: blkC w.heap.size [.int .i64 0, .int .i64 (m : Int), .slice ao l.length cc] 45 :: cs) w2)) := hid (fun W hA => by
      refine (IT.out l.length _ W.drew (by omega) hA.drew (hV _ hA.drew.tail)).mono ?_
      rintro e w' ⟨rfl, hA'⟩
      exact ⟨rfl, (blk3 hA').2.2, hid (row2 hA' (hR _ hA'.tail) (by omega))⟩)
    have C8 : Hid (∀ v2 W, All (ownC 9 v2 (txW (Lib.decDigits l.length :: l)) :: blkC w.heap.size [.int .i64 0, .int .i64 (m : Int), .slice ao l.length cc] 45 :: cs) W → Calls Tryz.prog 61 #[.int .i64 (m : Int)] W fun e w' => e = .returned (.string ⟨(Lib.decDigits m).toArray⟩) ∧ Hid (Calls Tryz.prog 99 #[.string ⟨(Lib.decDigits m).toArray⟩, v2] w' fun e w2 => ∃ v', e = .returned v' ∧ Hid (Calls Tryz.prog 99 #[.string ⟨(cdN.getD 0 []).toArray⟩, v'] w2 fun e w3 => ∃ v'', e = .returned v'' ∧ All (ownC 9 v'' (txW (cdN.getD 0 [] :: Lib.decDigits m :: Lib.decDigits l.length :: l)) :: cs) w3))) := hid (fun v2 W hA => by
      refine (IT.out m _ W (by omega) hA (hV _ hA.tail.tail)).mono ?_
      rintro e w' ⟨rfl, hA'⟩
      refine ⟨rfl, hid ?_⟩
      refine (row2 hA' (rt_own hA') (by simp; omega)).mono ?_
      rintro e w2 ⟨v', rfl, hA2⟩
      refine ⟨v', rfl, hid ?_⟩
      refine (row2 hA2 (rt_own hA2) (by simp; omega)).mono ?_
      rintro e w3 ⟨v'', rfl, hA3⟩
      exact ⟨v'', rfl, hA3.del.del.del⟩)
    have CD : Hid (∀ W, All cs W → W.cell? ⟨1, 0, none⟩ = some (.string ⟨(cdN.getD 0 []).toArray⟩)) := hid (fun W hA => (hD W hA).2 0 (by omega))
    clear hR hV hD IT
    generalize (cdN.getD 0 [] :: Lib.decDigits m :: Lib.decDigits l.length :: l) = RES at *
    generalize ByteArray.mk (Lib.decDigits l.length).toArray = XL at *
    generalize ByteArray.mk (Lib.decDigits m).toArray = XM at *
    generalize ByteArray.mk (cdN.getD 0 []).toArray = X0 at *
    generalize (Lib.decDigits l.length :: l) = RES1 at *
    generalize l.length = nl at *
    go_enter Tryz.func60, Tryz.ntmps60
    go_wp2_with (go_at_call 98; refine CK.out.mono ?_; rintro e w1 ⟨rfl, B1⟩; have A1 := hid (A0.out.later B1); clear B1; refine Hid.out ?_)
    refine hid ?_
    obtain ⟨y0, y1, y2⟩ := blk3 A1.out
    have d0 := CD.out _ A1.out.tail
    have Q14 := hid (C14.out _ A1.out)
    go_wp2
    go_region_law (go_simp; first | (go_at_call 61; refine Q14.out.mono ?_; rintro e w2 ⟨rfl, y2', Q13⟩) | (go_at_call 99; refine Q13.out.mono ?_; rintro e w3 ⟨v3, rfl, A3⟩))
    all_goals
      have B3 := hid A3
      clear A3
      obtain ⟨z0, z1, z2⟩ := blk3 B3.out.tail
      have P14 := hid (C8.out _ _ B3.out)
      clear C8 C14 Q14 Q13 A1
      go_wp2_with (go_at_call 61; refine P14.out.mono ?_; rintro e w4 ⟨rfl, P13⟩; refine Hid.out ?_)
      refine hid ?_
      go_wp2_with (go_at_call 99; refine P13.out.mono ?_; rintro e w5 ⟨v5, rfl, P13b⟩; refine Hid.out ?_)
      refine hid ?_
      go_wp2_with (go_at_call 99; refine P13b.out.mono ?_; rintro e w6 ⟨v6, rfl, A6⟩; have B6 := hid A6; clear A6; refine Hid.out ?_)
      refine hid ?_
      go_wp2
      go_ret2
      exact ⟨_, rfl, B6.out⟩
  · obtain ⟨rfl, rfl⟩ := hcn hz
    obtain ⟨k, rfl⟩ := Int.eq_ofNat_of_zero_le hc0
    have e2 : resW (k : Int).toNat (0 : Int).toNat [] = [cdN.getD k []] := by unfold resW; rw [Int.toNat_natCast, if_neg (by omega)]
    rw [e2]
    clear e2 hn0 hn1 hl8 hc0 hcn
    have CD : Hid (∀ W, All cs W → W.cell? ⟨1, k, none⟩ = some (.string ⟨(cdN.getD k []).toArray⟩)) := hid (fun W hA => (hD W hA).2 k (by omega))
    have RW : Hid (∀ W, All (blkC w.heap.size [.int .i64 (k : Int), .int .i64 0, .slice ao 0 cc] 45 :: cs) W → Calls Tryz.prog 99 #[.string ⟨(cdN.getD k []).toArray⟩, .slice none 0 0] W fun e w3 => ∃ v'', e = .returned v'' ∧ All (ownC 9 v'' (txW [cdN.getD k []]) :: cs) w3) := hid (fun W hA => by
      refine (row2 hA (rt_nil W) (by simp)).mono ?_
      rintro e w3 ⟨v'', rfl, hA3⟩
      exact ⟨v'', rfl, hA3.del⟩)
    have nz : ((k : Int) != 0) = true := by simpa using hz
    have hk5 : (k : Int) < 5 := by omega
    clear hR hV hD hz
    generalize [cdN.getD k []] = RES at *
    generalize ByteArray.mk (cdN.getD k []).toArray = X0 at *
    simp only [List.length_nil] at *
    go_enter Tryz.func60, Tryz.ntmps60
    go_wp2_with (go_at_call 98; refine CK.out.mono ?_; rintro e w1 ⟨rfl, B1⟩; have A1 := hid (A0.out.later B1); clear B1; refine Hid.out ?_)
    refine hid ?_
    obtain ⟨y0, y1, y2⟩ := blk3 A1.out
    have d0 := CD.out _ A1.out.tail
    have Q13 := hid (RW.out _ A1.out)
    go_wp2_with (go_at_call 99; refine Q13.out.mono ?_; rintro e w5 ⟨v5, rfl, A5⟩; have B5 := hid A5; clear A5; refine Hid.out ?_)
    refine hid ?_
    go_wp2
    go_ret2
    exact ⟨_, rfl, B5.out⟩
end Go.Proofs.YtdhkdniddjnigaaGreatDoor

namespace Go.Proofs.YtdhkdniddjnigaaGreatDoor
open Go.RowKit
set_option linter.unusedVariables false

/-- A part is let go. -/
theorem Gt.drop2 {G P : Nat} {s : Gs} {tl : List UInt8} {b m : Int} {X Y : Comp} {cs : List Comp} {w : World} (h : Gt G P s tl b m (X :: Y :: cs) w) : Gt G P s tl b m (X :: cs) w := by
  obtain ⟨x, y, z, h⟩ := h
  exact ⟨x, y, z, (h.perm ((List.Perm.append_left _ (List.Perm.swap _ _ _)).trans List.perm_middle)).tail⟩
theorem Gt.setUw {G P : Nat} {s : Gs} {tl : List UInt8} {b m : Int} {cs : List Comp} {w : World} (h : Gt G P s tl b m cs w) (u : Int) : Gt G P { s with uw := u } tl b m cs (w.setCell ⟨G, 4, none⟩ (.int .i64 u)) := by
  obtain ⟨x, y, z, h⟩ := h
  exact ⟨x, y, z, h.setBlk 4 (.int .i64 u)⟩
/-- A line is told. -/
theorem tell_gt {G P : Nat} {s : Gs} {tl : List UInt8} {b m : Int} {cs : List Comp} {w : World} {no : Int} {v : Value} {l : Ws} (h : Gt G P s tl b m cs w) (hV : ∀ W, All cs W → Vars W) (hR : ∀ W, All cs W → Rt W v l) (h0 : 0 ≤ no) (h1 : no ≤ 4611686018427387904) (hl : l.length ≤ 1000) (hJ : lenJ (Lib.itoa no :: l) ≤ 100000000) (hJ2 : (joinW (Lib.itoa no :: l)).length ≤ 1000000000) (ht : tl.length ≤ 100000000000000) :
    Calls Tryz.prog 62 #[.pointer (some ⟨G, 3, none⟩), .int .i64 no, v] w fun e w' => e = .returned (.tuple #[]) ∧ Gt G P s (tl ++ lnB no l) b m cs w' := by
  obtain ⟨txv, wsv, tov, A⟩ := h
  refine (tell_any (A.perm (List.Perm.cons _ (List.Perm.swap _ _ _))) (fun W hW => hV W (hW.tail.tail.tail.tail.tail)) (fun W hW => hR W (hW.tail.tail.tail.tail.tail)) h0 h1 hl hJ hJ2 ht).mono ?_
  rintro e w' ⟨rfl, tov', A'⟩
  exact ⟨rfl, txv, wsv, tov', A'.perm (List.Perm.cons _ (List.Perm.swap _ _ _))⟩
/-- What a result without anything is in words. -/
def rw0 : Ws := resA 0 0 []
theorem chk0 : chkW 0 0 [] = 0 := by decide +kernel
theorem dec0 : Lib.decDigits 0 = [48] := by rw [Lib.decDigits, dif_pos (by omega)]; rfl
theorem rw0_eq : rw0 = [doneB, [48], [48]] := by
  have : rw0 = resW 0 0 [] := by unfold rw0 resA; rw [if_neg (by rw [chk0]; simp)]; rfl
  rw [this]
  unfold resW
  simp [dec0, cdN, doneB]
/-- The words of an answer. -/
def ansW (rd : Bool) (nd n : Int) : Ws := (if rd then [toldB, Lib.itoa nd, Lib.itoa n] else [doneB, Lib.itoa n]) ++ rw0
/-- What an answer does. -/
def ansM (m : Int) (s : Gs) (rd : Bool) (nd n : Int) : Go := ⟨(goM m { s with uw := 0 }).s, (goM m { s with uw := 0 }).ms, lnB s.uw (ansW rd nd n) ++ (goM m { s with uw := 0 }).tl⟩
theorem ansW_len {rd : Bool} {nd n : Int} (n0 : 0 ≤ n) (n1 : n ≤ 9223372036854775807) (d0 : 0 ≤ nd) (d1 : nd ≤ 9223372036854775807) {no : Int} (u0 : 0 ≤ no) (u1 : no ≤ 9223372036854775807) : (ansW rd nd n).length ≤ 1000 ∧ lenJ (Lib.itoa no :: ansW rd nd n) ≤ 100000 := by
  have h1 := itoa_len n0 n1
  have h2 := itoa_len d0 d1
  have h3 := itoa_len u0 u1
  unfold ansW
  rw [rw0_eq]
  cases rd <;> simp only [if_true, Bool.false_eq_true, if_false, List.cons_append, List.nil_append, List.length_cons, List.length_nil, lenJ, List.map_cons, List.map_nil, List.sum_cons, List.sum_nil, doneB, toldB] <;> omega
set_option maxHeartbeats 3200000 in
set_option maxRecDepth 1000000 in
theorem answer_gt {G P : Nat} {s : Gs} {tl : List UInt8} {b m : Int} {cs : List Comp} {w : World} {q n nd : Int} (rd : Bool) (h : Gt G P s tl b m cs w) (E : Evs cs) (hD : ∀ W, All cs W → Cd W) (I : PxI s.x m s.n1 s.n2) (hno : ∀ q ∈ s.ws, 0 ≤ q.no ∧ q.no ≤ 4611686018427387904) (hn : s.ws.length ≤ 16) (hu : 0 ≤ s.uw ∧ s.uw ≤ 4611686018427387904) (n0 : 0 ≤ n ∧ n ≤ 4611686018427387904) (d0 : 0 ≤ nd ∧ nd ≤ 4611686018427387904) (ht : tl.length ≤ 40000000000000) :
    Calls Tryz.prog 37 #[.pointer (some ⟨G, 3, none⟩), .agg #[.bool rd, .int .i64 q, .int .i64 n, .int .i64 nd, .int .i64 0, .int .i64 0, .slice none 0 0]] w fun e w' => ∃ v, e = .returned v ∧ Gt G P (ansM m s rd nd n).s (tl ++ (ansM m s rd nd n).tl) b m (msC v (ansM m s rd nd n).ms :: cs) w' := by
  obtain ⟨H, hH⟩ : ∃ H, Hid (H = w.heap.size) := ⟨_, hid rfl⟩
  obtain ⟨txv, wsv, tov, A⟩ := h
  obtain ⟨PC, hPC⟩ : ∃ P : List Value, Hid (P = [.bool rd, .int .i64 q, .int .i64 n, .int .i64 nd, .int .i64 0, .int .i64 0, .slice none 0 0]) := ⟨_, hid rfl⟩
  have A1 := hid (A.addBlk PC 97)
  rw [← hH.out] at A1
  have e1 : PC.toArray = #[.bool rd, .int .i64 q, .int .i64 n, .int .i64 nd, .int .i64 0, .int .i64 0, .slice none 0 0] := by rw [hPC.out]
  rw [e1] at A1
  have CE : Hid (∀ W cs', All (blkC H PC 97 :: cs') W → W.cell? ⟨H, 0, none⟩ = some (.bool rd) ∧ W.cell? ⟨H, 2, none⟩ = some (.int .i64 n) ∧ W.cell? ⟨H, 3, none⟩ = some (.int .i64 nd) ∧ W.cell? ⟨H, 4, none⟩ = some (.int .i64 0) ∧ W.cell? ⟨H, 5, none⟩ = some (.int .i64 0) ∧ W.cell? ⟨H, 6, none⟩ = some (.slice none 0 0)) := hid (fun W cs' k => by
    rw [hPC.out] at k
    refine ⟨?_, ?_, ?_, ?_, ?_, ?_⟩ <;> exact (cell_at k.1.2.1 _).trans rfl)
  have C60 := hid (Result_any (c := 0) (n := 0) (s := .slice none 0 0) (l := []) A1.out (fun W _ => rt_nil W) (fun W k => E.V W k.tail.app) (fun W k => hD W k.tail.app) (by simp))
  obtain ⟨c0, c2, c3, c4, c5, c6⟩ := CE.out _ _ A1.out
  clear e1 A
  obtain ⟨AW, hAW⟩ : ∃ AW, Hid (AW = ansW rd nd n) := ⟨_, hid rfl⟩
  have eM : ansM m s rd nd n = ⟨(goM m { s with uw := 0 }).s, (goM m { s with uw := 0 }).ms, lnB s.uw AW ++ (goM m { s with uw := 0 }).tl⟩ := by unfold ansM; rw [hAW.out]
  rw [eM]
  have LA := hid (ansW_len (rd := rd) n0.1 (by omega) d0.1 (by omega) hu.1 (by omega))
  rw [← hAW.out] at LA
  clear eM
  go_enter Tryz.func37, Tryz.ntmps37
  go_upto_region 1 with fail
  simp only [← hH.out]
  generalize w.alloc (.cells #[.bool rd, .int .i64 q, .int .i64 n, .int .i64 nd, .int .i64 0, .int .i64 0, .slice none 0 0] 97) = w1 at *
  go_wp2_with fail
  refine C60.out.mono ?_
  rintro e w2 ⟨v5, rfl, hA2⟩
  obtain ⟨a5, k5, rfl⟩ := owns_form hA2.1.2.1
  rw [chk0]
  rw [txW_length] at hA2 ⊢
  have A2 := hid hA2
  clear hA2 C60 A1 c0 c2 c3 c4 c5 c6
  obtain ⟨c0, c2, c3, _, _, _⟩ := CE.out _ _ A2.out.tail
  have HV : Hid (∀ W ds, All (ds ++ (gtL G P s tl b m txv wsv tov ++ cs)) W → Vars W) := hid (fun W ds k => E.V W k.app.app)
  have C61 := hid (Itoa_any (HV.out w2 [_, _] A2.out) n0.1 (by omega))
  go_wp2_with fail
  refine C61.out.mono ?_
  rintro e w3 ⟨rfl, hB⟩
  have A3 := hid (A2.out.later hB)
  obtain ⟨b3, hb3⟩ : ∃ b, Hid (b = w3.heap.size) := ⟨_, hid rfl⟩
  have A4 : Hid (All (ownC 9 (.slice (some ⟨b3, 0, none⟩) 2 2) (txW [doneB, Lib.itoa n]) :: ownC 9 (.slice a5 rw0.length k5) (txW rw0) :: blkC H PC 97 :: (gtL G P s tl b m txv wsv tov ++ cs)) (w3.alloc (.cells #[.string ⟨#[100, 111, 110, 101]⟩, .string ⟨(Lib.itoa n).toArray⟩] 9))) := hid (by rw [hb3.out]; exact own_new A3.out [doneB, Lib.itoa n] (by simp))
  clear hB A2 C61 c0 c2 c3
  have hrw : (resA 0 0 []).length = rw0.length := rfl
  rw [hrw]
  go_upto_region 3 with fail
  simp only [← hb3.out]
  generalize w3.alloc (.cells #[.string ⟨#[100, 111, 110, 101]⟩, .string ⟨(Lib.itoa n).toArray⟩] 9) = w4 at *
  obtain ⟨c0, c2, c3, _, _, _⟩ := CE.out _ _ A4.out.tail.tail
  clear hrw A3
  generalize hrl : rw0.length = rl at *
  obtain ⟨REST, hREST⟩ : ∃ R, Hid (R = ownC 9 (.slice a5 rl k5) (txW rw0) :: blkC H PC 97 :: (gtL G P s tl b m txv wsv tov ++ cs)) := ⟨_, hid rfl⟩
  rw [← hREST.out] at A4
  have CR : Hid (∀ W c, All (c :: REST) W → W.cell? ⟨H, 3, none⟩ = some (.int .i64 nd) ∧ W.cell? ⟨H, 2, none⟩ = some (.int .i64 n)) := hid (fun W c k => by
    rw [hREST.out] at k
    obtain ⟨_, h2, h3, _⟩ := CE.out _ _ k.tail.tail
    exact ⟨h3, h2⟩)
  have VR : Hid (∀ W ds, All (ds ++ REST) W → Vars W) := hid (fun W ds k => by
    have k := k.app
    rw [hREST.out] at k
    exact HV.out W [_, _] k)
  have TAIL : Hid (∀ (W6 : World) (b6 : Nat) (wl : Ws) (n6 : Nat), n6 = wl.length → wl ++ rw0 = AW → All (ownC 9 (.slice (some ⟨b6, 0, none⟩) n6 n6) (txW wl) :: REST) W6 → ∃ ao c n7 w7, (Builtin.append_ #[43, 43] 43 #[.slice (some ⟨b6, 0, none⟩) n6 n6, .slice a5 rl k5]).run Tryz.prog W6 = .ok (.slice ao n7 c) w7 ∧ W6.cell? ⟨G, 4, none⟩ = some (.int .i64 s.uw) ∧ w7.cell? ⟨G, 4, none⟩ = some (.int .i64 s.uw) ∧ Calls Tryz.prog 62 #[.pointer (some ⟨G, 3, none⟩), .int .i64 s.uw, .slice ao n7 c] w7 fun e w8 => e = .returned (.tuple #[]) ∧ w8.cell? ⟨G, 4, none⟩ = some (.int .i64 s.uw) ∧ w8.frozen? ⟨G, 4, none⟩ = false ∧ Calls Tryz.prog 55 #[.pointer (some ⟨G, 3, none⟩)] (w8.setCell ⟨G, 4, none⟩ (.int .i64 0)) fun e w' => ∃ v, e = .returned v ∧ Gt G P (goM m { s with uw := 0 }).s (tl ++ (lnB s.uw AW ++ (goM m { s with uw := 0 }).tl)) b m (msC v (goM m { s with uw := 0 }).ms :: cs) w') := hid (by
    intro W6 b6 wl n6 hn6 hwl hA
    have hAR := hA
    rw [hREST.out] at hAR
    have hrt : Rt W6 (.slice a5 rl k5) rw0 := rt_own hAR.tail
    have hsum : wl.length + rw0.length ≤ 1000 := by
      have := LA.out.1
      rw [← hwl, List.length_append] at this
      exact this
    rw [hn6] at hA ⊢
    obtain ⟨ao, c, w7, hr, A7⟩ := appR hA hrt (by omega)
    rw [hwl, hREST.out] at A7
    have G7 : Gt G P s tl b m (ownC 9 (.slice ao (wl.length + rw0.length) c) (txW AW) :: ownC 9 (.slice a5 rl k5) (txW rw0) :: blkC H PC 97 :: cs) w7 := ⟨txv, wsv, tov, A7.perm (List.perm_append_comm_assoc [_, _, _] _ _)⟩
    have c7 : w7.cell? ⟨G, 4, none⟩ = some (.int .i64 s.uw) := by
      obtain ⟨_, _, _, k⟩ := G7
      exact Gt.cell k 4
    have c6 : W6.cell? ⟨G, 4, none⟩ = some (.int .i64 s.uw) := by
      have k : All (gtL G P s tl b m txv wsv tov ++ (ownC 9 (.slice (some ⟨b6, 0, none⟩) n6 n6) (txW wl) :: ownC 9 (.slice a5 rl k5) (txW rw0) :: blkC H PC 97 :: cs)) W6 := hAR.perm (List.perm_append_comm_assoc [_, _, _] _ _)
      exact Gt.cell k 4
    refine ⟨ao, c, _, w7, hr, c6, c7, ?_⟩
    refine (tell_gt G7 (fun W k => E.V W k.tail.tail.tail) (fun W k => rt_own k) hu.1 hu.2 LA.out.1 (by have := LA.out.2; omega) (Nat.le_trans (joinW_le _) (by have := LA.out.2; omega)) (by omega)).mono ?_
    rintro e w8 ⟨rfl, G8⟩
    obtain ⟨x8, y8, z8, A8⟩ := G8
    refine ⟨rfl, Gt.cell A8 4, Gt.free A8 4, ?_⟩
    have G9 := Gt.setUw (G := G) ⟨x8, y8, z8, A8⟩ 0
    refine (goOn_gt G9 (((E.cons _).cons _).cons _) I hno hn (by
      have h1 := joinW_le (Lib.itoa s.uw :: AW)
      have h2 := LA.out.2
      rw [List.length_append]
      unfold lnB
      rw [List.length_append]
      simp only [List.length_cons, List.length_nil]
      omega)).mono ?_
    rintro e w' ⟨v, rfl, G10⟩
    refine ⟨v, rfl, ?_⟩
    rw [← List.append_assoc]
    exact G10.drop2.drop2.drop2)
  cases rd with
  | false =>
    have hW : [doneB, Lib.itoa n] ++ rw0 = AW := hAW.out.symm
    obtain ⟨ao7, c7, n7, w7, hr7, k6, k7, T62⟩ := TAIL.out _ _ _ 2 rfl hW A4.out.drew
    have R7 := hid hr7
    have T62 := hid T62
    clear A4 hr7 TAIL CE c2 c3
    go_wp2_with fail
    go_region_held3 (fun W => W.cell? ⟨G, 4, none⟩ = some (.int .i64 s.uw)) (assumption) (first
      | (refine step_append_run (by rfl) _ _ 43 (by rfl) _ _ _ _ (by rfl) (by rfl) R7.out ?_)
      | (go_at_call 62; refine T62.out.mono ?_; rintro e w8 ⟨rfl, k8, f8, T55'⟩; have T55 := hid T55'; clear T55'))
    go_wp2_with fail
    refine T55.out.mono ?_
    rintro e w9 ⟨v9, rfl, G9⟩
    have G9 := hid G9
    go_wp2
    go_ret
    exact ⟨_, rfl, G9.out⟩
  | true =>
    go_wp2_with fail
    have C61b : Hid (Calls Tryz.prog 61 #[.int .i64 nd] w4.drew fun e w' => e = .returned (.string ⟨(Lib.itoa nd).toArray⟩) ∧ w'.cell? ⟨H, 3, none⟩ = some (.int .i64 nd) ∧ w'.cell? ⟨H, 2, none⟩ = some (.int .i64 n) ∧ Calls Tryz.prog 61 #[.int .i64 n] w' fun e w'' => e = .returned (.string ⟨(Lib.itoa n).toArray⟩) ∧ w''.cell? ⟨H, 3, none⟩ = some (.int .i64 nd) ∧ w''.cell? ⟨H, 2, none⟩ = some (.int .i64 n) ∧ (w''.alloc (.cells #[.string ⟨#[116, 111, 108, 100]⟩, .string ⟨(Lib.itoa nd).toArray⟩, .string ⟨(Lib.itoa n).toArray⟩] 9)).cell? ⟨H, 3, none⟩ = some (.int .i64 nd) ∧ (w''.alloc (.cells #[.string ⟨#[116, 111, 108, 100]⟩, .string ⟨(Lib.itoa nd).toArray⟩, .string ⟨(Lib.itoa n).toArray⟩] 9)).cell? ⟨H, 2, none⟩ = some (.int .i64 n) ∧ Hid (All (ownC 9 (.slice (some ⟨w''.heap.size, 0, none⟩) 3 3) (txW [toldB, Lib.itoa nd, Lib.itoa n]) :: REST) (w''.alloc (.cells #[.string ⟨#[116, 111, 108, 100]⟩, .string ⟨(Lib.itoa nd).toArray⟩, .string ⟨(Lib.itoa n).toArray⟩] 9)))) := hid (by
      refine (Itoa_any (VR.out _ [_] A4.out.drew) d0.1 (by omega)).mono ?_
      rintro e w' ⟨rfl, hB⟩
      have k := A4.out.drew.later hB
      obtain ⟨k1, k2⟩ := CR.out _ _ k
      refine ⟨rfl, k1, k2, ?_⟩
      refine (Itoa_any (VR.out _ [_] k) n0.1 (by omega)).mono ?_
      rintro e w'' ⟨rfl, hB2⟩
      have k' := k.later hB2
      obtain ⟨k3, k4⟩ := CR.out _ _ k'
      have k'' : All (ownC 9 (.slice (some ⟨w''.heap.size, 0, none⟩) 3 3) (txW [toldB, Lib.itoa nd, Lib.itoa n]) :: REST) (w''.alloc (.cells #[.string ⟨#[116, 111, 108, 100]⟩, .string ⟨(Lib.itoa nd).toArray⟩, .string ⟨(Lib.itoa n).toArray⟩] 9)) := own_new k'.tail [toldB, Lib.itoa nd, Lib.itoa n] (by simp)
      obtain ⟨k5, k6⟩ := CR.out _ _ k''
      exact ⟨rfl, k3, k4, k5, k6, hid k''⟩)
    obtain ⟨d3, d2⟩ := CR.out _ _ A4.out.drew
    go_region_held3 (fun W => W.cell? ⟨H, 3, none⟩ = some (.int .i64 nd) ∧ W.cell? ⟨H, 2, none⟩ = some (.int .i64 n)) ((constructor <;> assumption)) (first
      | (go_at_call 61; refine C61b.out.mono ?_; rintro e w5 ⟨rfl, q1, q2, OU'⟩; have OU := hid OU'; clear OU')
      | (go_at_call 61; refine OU.out.mono ?_; rintro e w6 ⟨rfl, q3, q4, q5, q6, A6⟩))
    have hW : [toldB, Lib.itoa nd, Lib.itoa n] ++ rw0 = AW := hAW.out.symm
    obtain ⟨ao7, c7, n7, w7, hr7, k6, k7, T62⟩ := TAIL.out _ _ _ 3 rfl hW A6.out.drew
    have R7 := hid hr7
    have T62 := hid T62
    clear A4 A6 hr7 TAIL CE c0 c2 c3 d2 d3 q1 q2 q3 q4 q5 q6 C61b OU
    generalize w6.heap.size = b6 at *
    generalize (w6.alloc (.cells #[.string ⟨#[116, 111, 108, 100]⟩, .string ⟨(Lib.itoa nd).toArray⟩, .string ⟨(Lib.itoa n).toArray⟩] 9)) = w6b at *
    go_wp2_with fail
    go_region_held3 (fun W => W.cell? ⟨G, 4, none⟩ = some (.int .i64 s.uw)) (assumption) (first
      | (refine step_append_run (by rfl) _ _ 43 (by rfl) _ _ _ _ (by rfl) (by rfl) R7.out ?_)
      | (go_at_call 62; refine T62.out.mono ?_; rintro e w8 ⟨rfl, k8, f8, T55'⟩; have T55 := hid T55'; clear T55'))
    go_wp2_with fail
    refine T55.out.mono ?_
    rintro e w9 ⟨v9, rfl, G9⟩
    have G9 := hid G9
    go_wp2
    go_ret
    exact ⟨_, rfl, G9.out⟩
end Go.Proofs.YtdhkdniddjnigaaGreatDoor

namespace Go.Proofs.YtdhkdniddjnigaaGreatDoor
open Go.RowKit
set_option linter.unusedVariables false

theorem blk_rng {W : World} {g : Nat} {vs : List Value} {t : TypeId} (h : (blkC g vs t).holds W) : W.rangeAt g 0 vs := fun j u hu => by rw [cell_at h]; simpa using hu
theorem Gt.dropL {G P : Nat} {s : Gs} {tl : List UInt8} {b m : Int} {c : Comp} {L cs : List Comp} {w : World} (h : Gt G P s tl b m (c :: (L ++ cs)) w) : Gt G P s tl b m (c :: cs) w := by
  obtain ⟨x, y, z, h⟩ := h
  exact ⟨x, y, z, ((h.perm (List.Perm.append_left _ List.perm_middle.symm)).perm (List.perm_append_comm_assoc _ L _)).app⟩
theorem Gt.addBlk {G P : Nat} {s : Gs} {tl : List UInt8} {b m : Int} {cs : List Comp} {w : World} (h : Gt G P s tl b m cs w) (vs : List Value) (t : TypeId) : Gt G P s tl b m (blkC w.heap.size vs t :: cs) (w.alloc (.cells vs.toArray t)) := by
  obtain ⟨x, y, z, h⟩ := h
  exact ⟨x, y, z, (h.addBlk vs t).perm List.perm_middle.symm⟩
theorem Gt.drew {G P : Nat} {s : Gs} {tl : List UInt8} {b m : Int} {cs : List Comp} {w : World} (h : Gt G P s tl b m cs w) : Gt G P s tl b m cs w.drew := by
  obtain ⟨x, y, z, h⟩ := h
  exact ⟨x, y, z, h.drew⟩
theorem Gt.setRow {G P g : Nat} {s : Gs} {tl : List UInt8} {b m : Int} {vs vs' : List Value} {t : TypeId} {cs : List Comp} {w : World} (h : Gt G P s tl b m (blkC g vs t :: cs) w) : Gt G P s tl b m (blkC g vs' t :: cs) (w.setRow g vs'.toArray) := by
  obtain ⟨x, y, z, h⟩ := h
  exact ⟨x, y, z, ((h.perm List.perm_middle).setRow (vs' := vs')).perm List.perm_middle.symm⟩
set_option maxHeartbeats 3200000 in
set_option maxRecDepth 1000000 in
theorem step_gt {G P : Nat} {s s' : Gs} {tl : List UInt8} {b m : Int} {cs : List Comp} {w : World} {nd : Int} (rd : Bool) (mm : Ms) (h : Gt G P s tl b m cs w) (E : Evs cs) (hD : ∀ W, All cs W → Cd W)
    (hP : ∀ W ds, Gt G P s tl b m (ds ++ cs) W → Calls Tryz.prog 36 #[.pointer (some ⟨P, 0, none⟩), .agg mm.cells.toArray] W fun e w' => e = .returned (.tuple #[.agg ([.bool rd, .int .i64 mm.q, .int .i64 mm.n, .int .i64 nd, .int .i64 0, .int .i64 0, .slice none 0 0] : List Value).toArray, .bool true]) ∧ Gt G P s' tl b m (ds ++ cs) w')
    (I : PxI s'.x m s'.n1 s'.n2) (hno : ∀ q ∈ s'.ws, 0 ≤ q.no ∧ q.no ≤ 4611686018427387904) (hn : s'.ws.length ≤ 16) (hu : 0 ≤ s'.uw ∧ s'.uw ≤ 4611686018427387904) (n0 : 0 ≤ mm.n ∧ mm.n ≤ 4611686018427387904) (d0 : 0 ≤ nd ∧ nd ≤ 4611686018427387904) (ht : tl.length ≤ 40000000000000) :
    Calls Tryz.prog 20 #[.pointer (some ⟨G, 0, none⟩), .agg mm.cells.toArray] w fun e w' => ∃ v, e = .returned v ∧ Gt G P (ansM m s' rd nd mm.n).s (tl ++ (ansM m s' rd nd mm.n).tl) b m (msC v (ansM m s' rd nd mm.n).ms :: cs) w' := by
  obtain ⟨M, hM⟩ : ∃ M, Hid (M = w.heap.size) := ⟨_, hid rfl⟩
  have G1 := hid (h.addBlk mm.cells 51)
  rw [← hM.out] at G1
  obtain ⟨AC, hAC⟩ : ∃ A : List Value, Hid (A = [.bool rd, .int .i64 mm.q, .int .i64 mm.n, .int .i64 nd, .int .i64 0, .int .i64 0, .slice none 0 0]) := ⟨_, hid rfl⟩
  rw [← hAC.out] at hP
  have HP := hid hP
  have S0 : Hid (∀ W ds, Gt G P s tl b m (ds ++ (blkC M mm.cells 51 :: cs)) W → W.cell? ⟨G, 3, none⟩ = some (ptr P) ∧ W.rangeAt M 0 mm.cells) := hid (fun W ds k => by
    have k2 : (blkC M mm.cells 51).holds W := (k.rest.mem (c := blkC M mm.cells 51) (by simp)).2.1
    obtain ⟨x, y, z, k⟩ := k
    exact ⟨Gt.cell k 3, blk_rng k2⟩)
  have S2 : Hid (∀ W ds, Gt G P s' tl b m (ds ++ (blkC M mm.cells 51 :: cs)) W → W.cell? ⟨G, 3, none⟩ = some (ptr P) ∧ W.rangeAt M 0 mm.cells) := hid (fun W ds k => by
    have k2 : (blkC M mm.cells 51).holds W := (k.rest.mem (c := blkC M mm.cells 51) (by simp)).2.1
    obtain ⟨x, y, z, k⟩ := k
    exact ⟨Gt.cell k 3, blk_rng k2⟩)
  have I51 := hid (show (Tryz.prog.info? 51).map (·.size) = some mm.cells.length by show (Tryz.prog.info? 51).map (·.size) = some 23; kernel_rfl)
  have FIN : Hid (∀ W ds D, Gt G P s' tl b m (ds ++ (blkC D AC 97 :: blkC M mm.cells 51 :: cs)) W → W.rangeAt D 0 AC ∧ Calls Tryz.prog 37 #[.pointer (some ⟨G, 3, none⟩), .agg AC.toArray] W fun e w' => ∃ v, e = .returned v ∧ w'.rangeAt D 0 AC ∧ Gt G P (ansM m s' rd nd mm.n).s (tl ++ (ansM m s' rd nd mm.n).tl) b m (msC v (ansM m s' rd nd mm.n).ms :: cs) w') := hid (fun W ds D k => by
    have k2 : (blkC D AC 97).holds W := (k.rest.mem (c := blkC D AC 97) (by simp)).2.1
    refine ⟨blk_rng k2, ?_⟩
    have k3 : Gt G P s' tl b m (ds ++ (blkC D AC 97 :: blkC M mm.cells 51 :: cs)) W := k
    have e : AC.toArray = #[.bool rd, .int .i64 mm.q, .int .i64 mm.n, .int .i64 nd, .int .i64 0, .int .i64 0, .slice none 0 0] := by rw [hAC.out]
    rw [e]
    refine (answer_gt (q := mm.q) rd k3 (((E.cons _).cons _).app ds) (fun W k => hD W k.app.tail.tail) I hno hn hu n0 d0 ht).mono ?_
    rintro e w' ⟨v, rfl, hG⟩
    refine ⟨v, rfl, blk_rng (hG.rest.mem (c := blkC D AC 97) (by simp)).2.1, ?_⟩
    have h1 := Gt.dropL hG
    exact h1.drop2.drop2)
  clear h hP E hD I hno hn hu n0 d0 ht
  have I97 := hid (show (Tryz.prog.info? 97).map (·.size) = some AC.length by rw [hAC.out]; show (Tryz.prog.info? 97).map (·.size) = some 7; kernel_rfl)
  have J97 := hid (show (Tryz.prog.info? 97).map (·.size) = some AC.toArray.size by rw [hAC.out]; show (Tryz.prog.info? 97).map (·.size) = some 7; kernel_rfl)
  have O97 := hid (show AC.toArray.all (·.oneCell') = true by rw [hAC.out]; simp [Value.oneCell'])
  go_enter Tryz.func20, Tryz.ntmps20
  go_upto_region 1 with fail
  simp only [← hM.out]
  generalize w.alloc (.cells mm.cells.toArray 51) = w1 at G1 ⊢
  have G2 := hid G1.out.drew
  refine wp_region_held_drew (S := (fun W => W.cell? ⟨G, 3, none⟩ = some (ptr P) ∧ W.rangeAt M 0 mm.cells)) (by kernel_rfl) (S0.out _ [] G2.out) (fun hHeld => ?_)
  refine wpAnyH_take (i := 0) (oi := { dst := some 8, op := Go.Op.move (Go.Operand.tmp 0), type := 27, pos := "gate.go:43", after := #[], guard := none }) (v := ?_) rfl (by kernel_rfl) (by kernel_rfl) (by kernel_rfl) (fun _ _ _ h => h) (Or.inl ⟨by rfl, ?_⟩) hHeld ?_
  rotate_left
  · intro W hSw
    (try dsimp only at hSw)
    go_simp
    (try with_reducible rfl)
  (try simp only [Act.put, List.setIfInBounds_toArray, List.set_cons_zero, List.set_cons_succ])
  refine wpAnyH_take (i := 1) (oi := { dst := some 9, op := Go.Op.nilCheck (Go.Operand.tmp 8), type := 0, pos := "gate.go:43", after := #[{ on := 0, ground := Go.Ground.data }], guard := none }) (v := ?_) rfl (by kernel_rfl) (by kernel_rfl) (by kernel_rfl) (fun _ _ _ h => h) (Or.inl ⟨by rfl, ?_⟩) hHeld ?_
  rotate_left
  · intro W hSw
    (try dsimp only at hSw)
    go_simp
    (try with_reducible rfl)
  (try simp only [Act.put, List.setIfInBounds_toArray, List.set_cons_zero, List.set_cons_succ])
  refine wpAnyH_take (i := 2) (oi := { dst := some 10, op := Go.Op.fieldAddr 79 (Go.Operand.tmp 9) 1, type := 0, pos := "gate.go:43", after := #[{ on := 1, ground := Go.Ground.data }], guard := none }) (v := ?_) rfl (by kernel_rfl) (by kernel_rfl) (by kernel_rfl) (fun _ _ _ h => h) (Or.inl ⟨by rfl, ?_⟩) hHeld ?_
  rotate_left
  · intro W hSw
    (try dsimp only at hSw)
    go_simp
    (try with_reducible rfl)
  (try simp only [Act.put, List.setIfInBounds_toArray, List.set_cons_zero, List.set_cons_succ])
  refine wpAnyH_take (i := 3) (oi := { dst := some 11, op := Go.Op.fieldAddr 77 (Go.Operand.tmp 10) 0, type := 0, pos := "gate.go:43", after := #[{ on := 2, ground := Go.Ground.data }], guard := none }) (v := ?_) rfl (by kernel_rfl) (by kernel_rfl) (by kernel_rfl) (fun _ _ _ h => h) (Or.inl ⟨by rfl, ?_⟩) hHeld ?_
  rotate_left
  · intro W hSw
    (try dsimp only at hSw)
    go_simp
    (try with_reducible rfl)
  (try simp only [Act.put, List.setIfInBounds_toArray, List.set_cons_zero, List.set_cons_succ])
  refine wpAnyH_take (i := 4) (oi := { dst := some 12, op := Go.Op.load 70 (Go.Operand.tmp 11), type := 70, pos := "gate.go:43", after := #[{ on := 3, ground := Go.Ground.data }], guard := none }) (v := ?_) rfl (by kernel_rfl) (by kernel_rfl) (by kernel_rfl) (fun _ _ _ h => h) (Or.inl ⟨by rfl, ?_⟩) hHeld ?_
  rotate_left
  · intro W hSw
    (try dsimp only at hSw)
    go_simp
    (try with_reducible rfl)
  (try simp only [Act.put, List.setIfInBounds_toArray, List.set_cons_zero, List.set_cons_succ])
  refine wpAnyH_take (i := 5) (oi := { dst := some 13, op := Go.Op.load 51 (Go.Operand.tmp 3), type := 51, pos := "gate.go:43", after := #[], guard := none }) (v := .agg mm.cells.toArray) rfl (by kernel_rfl) (by kernel_rfl) (by kernel_rfl) (fun _ _ _ h => h) (yieldsIf_load_mid (by rfl) 51 (.tmp 3) rfl M 0 rfl mm.cells _ (fun W hW => hW.2) Tryz.underlying51 rfl I51.out) hHeld ?_
  (try simp only [Act.put, List.setIfInBounds_toArray, List.set_cons_zero, List.set_cons_succ])
  refine wpAnyH_ready (rs := [6, 10]) (by kernel_rfl) (by simp) ?_
  refine AllReadyH.cons (o := { dst := some 14, op := Go.Op.call { callee := Go.Callee.value (Go.Operand.func 36), args := #[Go.Operand.tmp 12, Go.Operand.tmp 13], argTypes := #[70, 51] }, type := 98, pos := "gate.go:43", after := #[{ on := 4, ground := Go.Ground.data }, { on := 5, ground := Go.Ground.data }], guard := none }) rfl (fun K hK => ?_) (AllReadyH.cons (o := { dst := some 5, op := Go.Op.alloc 97, type := 0, pos := "gate.go:43", after := #[], guard := none }) rfl (fun K hK => ?_) AllReadyH.nil)
  · go_simp
    refine (HP.out _ [blkC M mm.cells 51] G2.out).mono ?_
    rintro e w3 ⟨rfl, hG3⟩
    have G3 := hid hG3
    refine hK.out _ _ (S2.out _ [] G3.out) (fun hHeld => ?_)
    clear hK K hG3
    (try simp only [Act.put, List.setIfInBounds_toArray, List.set_cons_zero, List.set_cons_succ])
    refine wpAnyH_take (i := 7) (oi := { dst := some 7, op := Go.Op.move (Go.Operand.tmp 14), type := 98, pos := "gate.go:43", after := #[{ on := 6, ground := Go.Ground.data }], guard := none }) (v := ?_) rfl (by kernel_rfl) (by kernel_rfl) (by kernel_rfl) (fun _ _ _ h => h) (Or.inl ⟨by rfl, ?_⟩) hHeld ?_
    rotate_left
    · intro W hSw
      (try dsimp only at hSw)
      go_simp
      (try with_reducible rfl)
    (try simp only [Act.put, List.setIfInBounds_toArray, List.set_cons_zero, List.set_cons_succ])
    refine wpAnyH_take (i := 8) (oi := { dst := some 15, op := Go.Op.extract (Go.Operand.tmp 7) 0, type := 97, pos := "gate.go:43", after := #[{ on := 7, ground := Go.Ground.data }], guard := none }) (v := ?_) rfl (by kernel_rfl) (by kernel_rfl) (by kernel_rfl) (fun _ _ _ h => h) (Or.inl ⟨by rfl, ?_⟩) hHeld ?_
    rotate_left
    · intro W hSw
      (try dsimp only at hSw)
      go_simp
      (try with_reducible rfl)
    (try simp only [Act.put, List.setIfInBounds_toArray, List.set_cons_zero, List.set_cons_succ])
    refine wpAnyH_take (i := 9) (oi := { dst := some 16, op := Go.Op.extract (Go.Operand.tmp 7) 1, type := 4, pos := "gate.go:43", after := #[{ on := 7, ground := Go.Ground.data }, { on := 11, ground := Go.Ground.gcOnly Go.Departure.lateStores }], guard := none }) (v := ?_) rfl (by kernel_rfl) (by kernel_rfl) (by kernel_rfl) (fun _ _ _ h => h) (Or.inl ⟨by rfl, ?_⟩) hHeld ?_
    rotate_left
    · intro W hSw
      (try dsimp only at hSw)
      go_simp
      (try with_reducible rfl)
    (try simp only [Act.put, List.setIfInBounds_toArray, List.set_cons_zero, List.set_cons_succ])
    have G4 := hid (G3.out.addBlk [.bool false, .int .i64 0, .int .i64 0, .int .i64 0, .int .i64 0, .int .i64 0, .slice none 0 0] 97)
    obtain ⟨D, hDD⟩ : ∃ D, Hid (D = w3.heap.size) := ⟨_, hid rfl⟩
    rw [← hDD.out] at G4
    refine wpAnyH_ready (rs := [10]) (by kernel_rfl) (by simp) ?_
    refine AllReadyH.cons (o := { dst := some 5, op := Go.Op.alloc 97, type := 0, pos := "gate.go:43", after := #[], guard := none }) rfl (fun K hK => ?_) AllReadyH.nil
    go_simp
    skip
    refine hK.out _ _ (S2.out _ [blkC D [.bool false, .int .i64 0, .int .i64 0, .int .i64 0, .int .i64 0, .int .i64 0, .slice none 0 0] 97] G4.out) (fun hHeld => ?_)
    clear hK K
    (try simp only [Act.put, List.setIfInBounds_toArray, List.set_cons_zero, List.set_cons_succ])
    simp only [← hDD.out]
    have hg := hid G4.out.rest.1.2.1
    have GY := hid (G4.out.setRow (vs' := AC))
    have Z97 := hid (show ([.bool false, .int .i64 0, .int .i64 0, .int .i64 0, .int .i64 0, .int .i64 0, .slice none 0 0] : List Value).toArray.size = AC.toArray.size by rw [hAC.out]; rfl)
    refine wpAnyH_ready (rs := [11]) (by kernel_rfl) (by simp) ?_
    refine AllReadyH.cons (o := { dst := none, op := Go.Op.store 97 (Go.Operand.tmp 5) (Go.Operand.tmp 15), type := 0, pos := "gate.go:43", after := #[{ on := 10, ground := Go.Ground.data }, { on := 8, ground := Go.Ground.data }, { on := 6, ground := Go.Ground.chain }, { on := 0, ground := Go.Ground.phase }, { on := 1, ground := Go.Ground.phase }, { on := 2, ground := Go.Ground.phase }, { on := 3, ground := Go.Ground.phase }, { on := 4, ground := Go.Ground.phase }, { on := 5, ground := Go.Ground.phase }, { on := 6, ground := Go.Ground.phase }, { on := 7, ground := Go.Ground.phase }, { on := 8, ground := Go.Ground.phase }, { on := 9, ground := Go.Ground.textOnly Go.Departure.lateStores }, { on := 10, ground := Go.Ground.phase }], guard := none }) rfl (fun K hK => ?_) AllReadyH.nil
    rw [if_pos (by rfl)]
    refine wp_store_row 97 _ _ rfl D AC.toArray rfl rfl 97 _ hg.out J97.out Z97.out O97.out ?_
    refine hK.out _ _ (S2.out _ [blkC D AC 97] GY.out) (fun hHeld => ?_)
    clear hK K
    (try simp only [Act.put])
    refine wpAnyH_take (i := 12) (oi := { dst := some 6, op := Go.Op.assign (Go.Operand.tmp 16), type := 4, pos := "gate.go:43", after := #[{ on := 9, ground := Go.Ground.data }, { on := 11, ground := Go.Ground.chain }, { on := 0, ground := Go.Ground.phase }, { on := 1, ground := Go.Ground.phase }, { on := 2, ground := Go.Ground.phase }, { on := 3, ground := Go.Ground.phase }, { on := 4, ground := Go.Ground.phase }, { on := 5, ground := Go.Ground.phase }, { on := 6, ground := Go.Ground.phase }, { on := 7, ground := Go.Ground.phase }, { on := 8, ground := Go.Ground.phase }, { on := 9, ground := Go.Ground.phase }, { on := 10, ground := Go.Ground.phase }, { on := 11, ground := Go.Ground.phase }], guard := none }) (v := ?_) rfl (by kernel_rfl) (by kernel_rfl) (by kernel_rfl) (fun _ _ _ h => h) (Or.inl ⟨by rfl, ?_⟩) hHeld ?_
    rotate_left
    · intro W hSw
      (try dsimp only at hSw)
      go_simp
      (try with_reducible rfl)
    (try simp only [Act.put, List.setIfInBounds_toArray, List.set_cons_zero, List.set_cons_succ])
    refine wpAnyH_done (by kernel_rfl) ?_ _
    clear hHeld
    obtain ⟨r4, T37'⟩ := FIN.out _ [] D GY.out.drew
    have T37 := hid T37'
    clear T37'
    go_wp2_with fail
    refine wp_region_held_drew (S := (fun W => W.rangeAt D 0 AC)) (by kernel_rfl) r4 (fun hHeld => ?_)
    refine wpAnyH_take (i := 0) (oi := { dst := some 19, op := Go.Op.move (Go.Operand.tmp 0), type := 27, pos := "gate.go:47", after := #[], guard := none }) (v := ?_) rfl (by kernel_rfl) (by kernel_rfl) (by kernel_rfl) (fun _ _ _ h => h) (Or.inl ⟨by rfl, ?_⟩) hHeld ?_
    rotate_left
    · intro W hSw
      (try dsimp only at hSw)
      go_simp
      (try with_reducible rfl)
    (try simp only [Act.put, List.setIfInBounds_toArray, List.set_cons_zero, List.set_cons_succ])
    refine wpAnyH_take (i := 1) (oi := { dst := some 20, op := Go.Op.nilCheck (Go.Operand.tmp 19), type := 0, pos := "gate.go:47", after := #[{ on := 0, ground := Go.Ground.data }], guard := none }) (v := ?_) rfl (by kernel_rfl) (by kernel_rfl) (by kernel_rfl) (fun _ _ _ h => h) (Or.inl ⟨by rfl, ?_⟩) hHeld ?_
    rotate_left
    · intro W hSw
      (try dsimp only at hSw)
      go_simp
      (try with_reducible rfl)
    (try simp only [Act.put, List.setIfInBounds_toArray, List.set_cons_zero, List.set_cons_succ])
    refine wpAnyH_take (i := 2) (oi := { dst := some 21, op := Go.Op.fieldAddr 79 (Go.Operand.tmp 20) 1, type := 0, pos := "gate.go:47", after := #[{ on := 1, ground := Go.Ground.data }], guard := none }) (v := ?_) rfl (by kernel_rfl) (by kernel_rfl) (by kernel_rfl) (fun _ _ _ h => h) (Or.inl ⟨by rfl, ?_⟩) hHeld ?_
    rotate_left
    · intro W hSw
      (try dsimp only at hSw)
      go_simp
      (try with_reducible rfl)
    (try simp only [Act.put, List.setIfInBounds_toArray, List.set_cons_zero, List.set_cons_succ])
    refine wpAnyH_take (i := 3) (oi := { dst := some 22, op := Go.Op.load 97 (Go.Operand.tmp 5), type := 97, pos := "gate.go:47", after := #[], guard := none }) (v := .agg AC.toArray) rfl (by kernel_rfl) (by kernel_rfl) (by kernel_rfl) (fun _ _ _ h => h) (yieldsIf_load_mid (by rfl) 97 (.tmp 5) rfl D 0 rfl AC _ (fun W hW => hW) Tryz.underlying97 rfl I97.out) hHeld ?_
    (try simp only [Act.put, List.setIfInBounds_toArray, List.set_cons_zero, List.set_cons_succ])
    refine wpAnyH_ready (rs := [4]) (by kernel_rfl) (by simp) ?_
    refine AllReadyH.cons (o := { dst := some 23, op := Go.Op.call { callee := Go.Callee.value (Go.Operand.func 37), args := #[Go.Operand.tmp 21, Go.Operand.tmp 22], argTypes := #[77, 97] }, type := 59, pos := "gate.go:47", after := #[{ on := 2, ground := Go.Ground.data }, { on := 3, ground := Go.Ground.data }], guard := none }) rfl (fun K hK => ?_) AllReadyH.nil
    go_simp
    refine T37.out.mono ?_; rintro e w9 ⟨v9, rfl, r9, hG9⟩; have G9 := hid hG9
    refine hK.out _ _ r9 (fun hHeld => ?_)
    clear hK K
    (try simp only [Act.put, List.setIfInBounds_toArray, List.set_cons_zero, List.set_cons_succ])
    refine wpAnyH_take (i := 5) (oi := { dst := some 4, op := Go.Op.assign (Go.Operand.tmp 23), type := 59, pos := "gate.go:47", after := #[{ on := 4, ground := Go.Ground.data }, { on := 4, ground := Go.Ground.chain }, { on := 0, ground := Go.Ground.phase }, { on := 1, ground := Go.Ground.phase }, { on := 2, ground := Go.Ground.phase }, { on := 3, ground := Go.Ground.phase }, { on := 4, ground := Go.Ground.phase }], guard := none }) (v := ?_) rfl (by kernel_rfl) (by kernel_rfl) (by kernel_rfl) (fun _ _ _ h => h) (Or.inl ⟨by rfl, ?_⟩) hHeld ?_
    rotate_left
    · intro W hSw
      (try dsimp only at hSw)
      go_simp
      (try with_reducible rfl)
    (try simp only [Act.put, List.setIfInBounds_toArray, List.set_cons_zero, List.set_cons_succ])
    refine wpAnyH_done (by kernel_rfl) ?_ _
    clear hHeld
    go_wp2
    go_ret
    exact ⟨_, rfl, G9.out⟩
  · go_simp
    have G3 := hid (G2.out.addBlk [.bool false, .int .i64 0, .int .i64 0, .int .i64 0, .int .i64 0, .int .i64 0, .slice none 0 0] 97)
    obtain ⟨D, hDD⟩ : ∃ D, Hid (D = w1.heap.size) := ⟨_, hid rfl⟩
    have eD : w1.drew.heap.size = w1.heap.size := rfl
    rw [eD, ← hDD.out] at G3
    clear eD
    refine hK.out _ _ (S0.out _ [blkC D [.bool false, .int .i64 0, .int .i64 0, .int .i64 0, .int .i64 0, .int .i64 0, .slice none 0 0] 97] G3.out) (fun hHeld => ?_)
    clear hK K
    (try simp only [Act.put, List.setIfInBounds_toArray, List.set_cons_zero, List.set_cons_succ])
    simp only [← hDD.out]
    refine wpAnyH_ready (rs := [6]) (by kernel_rfl) (by simp) ?_
    refine AllReadyH.cons (o := { dst := some 14, op := Go.Op.call { callee := Go.Callee.value (Go.Operand.func 36), args := #[Go.Operand.tmp 12, Go.Operand.tmp 13], argTypes := #[70, 51] }, type := 98, pos := "gate.go:43", after := #[{ on := 4, ground := Go.Ground.data }, { on := 5, ground := Go.Ground.data }], guard := none }) rfl (fun K hK => ?_) AllReadyH.nil
    go_simp
    refine (HP.out _ [blkC D [.bool false, .int .i64 0, .int .i64 0, .int .i64 0, .int .i64 0, .int .i64 0, .slice none 0 0] 97, blkC M mm.cells 51] G3.out).mono ?_; rintro e w3 ⟨rfl, hG4⟩; have G4 := hid hG4
    refine hK.out _ _ (S2.out _ [blkC D [.bool false, .int .i64 0, .int .i64 0, .int .i64 0, .int .i64 0, .int .i64 0, .slice none 0 0] 97] G4.out) (fun hHeld => ?_)
    clear hK K
    (try simp only [Act.put, List.setIfInBounds_toArray, List.set_cons_zero, List.set_cons_succ])
    refine wpAnyH_take (i := 7) (oi := { dst := some 7, op := Go.Op.move (Go.Operand.tmp 14), type := 98, pos := "gate.go:43", after := #[{ on := 6, ground := Go.Ground.data }], guard := none }) (v := ?_) rfl (by kernel_rfl) (by kernel_rfl) (by kernel_rfl) (fun _ _ _ h => h) (Or.inl ⟨by rfl, ?_⟩) hHeld ?_
    rotate_left
    · intro W hSw
      (try dsimp only at hSw)
      go_simp
      (try with_reducible rfl)
    (try simp only [Act.put, List.setIfInBounds_toArray, List.set_cons_zero, List.set_cons_succ])
    refine wpAnyH_take (i := 8) (oi := { dst := some 15, op := Go.Op.extract (Go.Operand.tmp 7) 0, type := 97, pos := "gate.go:43", after := #[{ on := 7, ground := Go.Ground.data }], guard := none }) (v := ?_) rfl (by kernel_rfl) (by kernel_rfl) (by kernel_rfl) (fun _ _ _ h => h) (Or.inl ⟨by rfl, ?_⟩) hHeld ?_
    rotate_left
    · intro W hSw
      (try dsimp only at hSw)
      go_simp
      (try with_reducible rfl)
    (try simp only [Act.put, List.setIfInBounds_toArray, List.set_cons_zero, List.set_cons_succ])
    refine wpAnyH_take (i := 9) (oi := { dst := some 16, op := Go.Op.extract (Go.Operand.tmp 7) 1, type := 4, pos := "gate.go:43", after := #[{ on := 7, ground := Go.Ground.data }, { on := 11, ground := Go.Ground.gcOnly Go.Departure.lateStores }], guard := none }) (v := ?_) rfl (by kernel_rfl) (by kernel_rfl) (by kernel_rfl) (fun _ _ _ h => h) (Or.inl ⟨by rfl, ?_⟩) hHeld ?_
    rotate_left
    · intro W hSw
      (try dsimp only at hSw)
      go_simp
      (try with_reducible rfl)
    (try simp only [Act.put, List.setIfInBounds_toArray, List.set_cons_zero, List.set_cons_succ])
    have hg := hid G4.out.rest.1.2.1
    have GY := hid (G4.out.setRow (vs' := AC))
    have Z97 := hid (show ([.bool false, .int .i64 0, .int .i64 0, .int .i64 0, .int .i64 0, .int .i64 0, .slice none 0 0] : List Value).toArray.size = AC.toArray.size by rw [hAC.out]; rfl)
    refine wpAnyH_ready (rs := [11]) (by kernel_rfl) (by simp) ?_
    refine AllReadyH.cons (o := { dst := none, op := Go.Op.store 97 (Go.Operand.tmp 5) (Go.Operand.tmp 15), type := 0, pos := "gate.go:43", after := #[{ on := 10, ground := Go.Ground.data }, { on := 8, ground := Go.Ground.data }, { on := 6, ground := Go.Ground.chain }, { on := 0, ground := Go.Ground.phase }, { on := 1, ground := Go.Ground.phase }, { on := 2, ground := Go.Ground.phase }, { on := 3, ground := Go.Ground.phase }, { on := 4, ground := Go.Ground.phase }, { on := 5, ground := Go.Ground.phase }, { on := 6, ground := Go.Ground.phase }, { on := 7, ground := Go.Ground.phase }, { on := 8, ground := Go.Ground.phase }, { on := 9, ground := Go.Ground.textOnly Go.Departure.lateStores }, { on := 10, ground := Go.Ground.phase }], guard := none }) rfl (fun K hK => ?_) AllReadyH.nil
    rw [if_pos (by rfl)]
    refine wp_store_row 97 _ _ rfl D AC.toArray rfl rfl 97 _ hg.out J97.out Z97.out O97.out ?_
    refine hK.out _ _ (S2.out _ [blkC D AC 97] GY.out) (fun hHeld => ?_)
    clear hK K
    (try simp only [Act.put])
    refine wpAnyH_take (i := 12) (oi := { dst := some 6, op := Go.Op.assign (Go.Operand.tmp 16), type := 4, pos := "gate.go:43", after := #[{ on := 9, ground := Go.Ground.data }, { on := 11, ground := Go.Ground.chain }, { on := 0, ground := Go.Ground.phase }, { on := 1, ground := Go.Ground.phase }, { on := 2, ground := Go.Ground.phase }, { on := 3, ground := Go.Ground.phase }, { on := 4, ground := Go.Ground.phase }, { on := 5, ground := Go.Ground.phase }, { on := 6, ground := Go.Ground.phase }, { on := 7, ground := Go.Ground.phase }, { on := 8, ground := Go.Ground.phase }, { on := 9, ground := Go.Ground.phase }, { on := 10, ground := Go.Ground.phase }, { on := 11, ground := Go.Ground.phase }], guard := none }) (v := ?_) rfl (by kernel_rfl) (by kernel_rfl) (by kernel_rfl) (fun _ _ _ h => h) (Or.inl ⟨by rfl, ?_⟩) hHeld ?_
    rotate_left
    · intro W hSw
      (try dsimp only at hSw)
      go_simp
      (try with_reducible rfl)
    (try simp only [Act.put, List.setIfInBounds_toArray, List.set_cons_zero, List.set_cons_succ])
    refine wpAnyH_done (by kernel_rfl) ?_ _
    clear hHeld
    obtain ⟨r4, T37'⟩ := FIN.out _ [] D GY.out.drew
    have T37 := hid T37'
    clear T37'
    go_wp2_with fail
    refine wp_region_held_drew (S := (fun W => W.rangeAt D 0 AC)) (by kernel_rfl) r4 (fun hHeld => ?_)
    refine wpAnyH_take (i := 0) (oi := { dst := some 19, op := Go.Op.move (Go.Operand.tmp 0), type := 27, pos := "gate.go:47", after := #[], guard := none }) (v := ?_) rfl (by kernel_rfl) (by kernel_rfl) (by kernel_rfl) (fun _ _ _ h => h) (Or.inl ⟨by rfl, ?_⟩) hHeld ?_
    rotate_left
    · intro W hSw
      (try dsimp only at hSw)
      go_simp
      (try with_reducible rfl)
    (try simp only [Act.put, List.setIfInBounds_toArray, List.set_cons_zero, List.set_cons_succ])
    refine wpAnyH_take (i := 1) (oi := { dst := some 20, op := Go.Op.nilCheck (Go.Operand.tmp 19), type := 0, pos := "gate.go:47", after := #[{ on := 0, ground := Go.Ground.data }], guard := none }) (v := ?_) rfl (by kernel_rfl) (by kernel_rfl) (by kernel_rfl) (fun _ _ _ h => h) (Or.inl ⟨by rfl, ?_⟩) hHeld ?_
    rotate_left
    · intro W hSw
      (try dsimp only at hSw)
      go_simp
      (try with_reducible rfl)
    (try simp only [Act.put, List.setIfInBounds_toArray, List.set_cons_zero, List.set_cons_succ])
    refine wpAnyH_take (i := 2) (oi := { dst := some 21, op := Go.Op.fieldAddr 79 (Go.Operand.tmp 20) 1, type := 0, pos := "gate.go:47", after := #[{ on := 1, ground := Go.Ground.data }], guard := none }) (v := ?_) rfl (by kernel_rfl) (by kernel_rfl) (by kernel_rfl) (fun _ _ _ h => h) (Or.inl ⟨by rfl, ?_⟩) hHeld ?_
    rotate_left
    · intro W hSw
      (try dsimp only at hSw)
      go_simp
      (try with_reducible rfl)
    (try simp only [Act.put, List.setIfInBounds_toArray, List.set_cons_zero, List.set_cons_succ])
    refine wpAnyH_take (i := 3) (oi := { dst := some 22, op := Go.Op.load 97 (Go.Operand.tmp 5), type := 97, pos := "gate.go:47", after := #[], guard := none }) (v := .agg AC.toArray) rfl (by kernel_rfl) (by kernel_rfl) (by kernel_rfl) (fun _ _ _ h => h) (yieldsIf_load_mid (by rfl) 97 (.tmp 5) rfl D 0 rfl AC _ (fun W hW => hW) Tryz.underlying97 rfl I97.out) hHeld ?_
    (try simp only [Act.put, List.setIfInBounds_toArray, List.set_cons_zero, List.set_cons_succ])
    refine wpAnyH_ready (rs := [4]) (by kernel_rfl) (by simp) ?_
    refine AllReadyH.cons (o := { dst := some 23, op := Go.Op.call { callee := Go.Callee.value (Go.Operand.func 37), args := #[Go.Operand.tmp 21, Go.Operand.tmp 22], argTypes := #[77, 97] }, type := 59, pos := "gate.go:47", after := #[{ on := 2, ground := Go.Ground.data }, { on := 3, ground := Go.Ground.data }], guard := none }) rfl (fun K hK => ?_) AllReadyH.nil
    go_simp
    refine T37.out.mono ?_; rintro e w9 ⟨v9, rfl, r9, hG9⟩; have G9 := hid hG9
    refine hK.out _ _ r9 (fun hHeld => ?_)
    clear hK K
    (try simp only [Act.put, List.setIfInBounds_toArray, List.set_cons_zero, List.set_cons_succ])
    refine wpAnyH_take (i := 5) (oi := { dst := some 4, op := Go.Op.assign (Go.Operand.tmp 23), type := 59, pos := "gate.go:47", after := #[{ on := 4, ground := Go.Ground.data }, { on := 4, ground := Go.Ground.chain }, { on := 0, ground := Go.Ground.phase }, { on := 1, ground := Go.Ground.phase }, { on := 2, ground := Go.Ground.phase }, { on := 3, ground := Go.Ground.phase }, { on := 4, ground := Go.Ground.phase }], guard := none }) (v := ?_) rfl (by kernel_rfl) (by kernel_rfl) (by kernel_rfl) (fun _ _ _ h => h) (Or.inl ⟨by rfl, ?_⟩) hHeld ?_
    rotate_left
    · intro W hSw
      (try dsimp only at hSw)
      go_simp
      (try with_reducible rfl)
    (try simp only [Act.put, List.setIfInBounds_toArray, List.set_cons_zero, List.set_cons_succ])
    refine wpAnyH_done (by kernel_rfl) ?_ _
    clear hHeld
    go_wp2
    go_ret
    exact ⟨_, rfl, G9.out⟩

end Go.Proofs.YtdhkdniddjnigaaGreatDoor

namespace Go.Proofs.YtdhkdniddjnigaaGreatDoor
open Go.RowKit
set_option linter.unusedVariables false

/-- Are the numbers in their bounds? -/
def Ms.numB (m : Ms) (k : Nat) : Bool := (!inK k 75 || inR m.n (lstK (k : Int)) 1099511627776) && ((!inK k 67 || inR m.c 0 1099511627776) && ((!inK k 78 || inR m.o 0 m.v) && ((!inK k 76 || inR m.l 1 1099511627776) && (!inK k 81 || inR m.q 1 1099511627776))))
/-- May all else be? -/
def Ms.bodB (m : Ms) (k : Nat) (li : List ByteArray) (le : List Ent) (ls : List Sh) (lx : List Ent) : Bool := (!inK k 79 || m.oB) && ((!inK k 82 || chkX m.rc m.rn li == 0) && ((!inK k 69 || m.eB le) && (!inH k m.h 71 || cgB m.cf m.cb ls lx)))
end Go.Proofs.YtdhkdniddjnigaaGreatDoor
