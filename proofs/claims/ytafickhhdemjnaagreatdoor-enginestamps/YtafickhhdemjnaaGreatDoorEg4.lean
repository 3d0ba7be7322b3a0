import Derived.Test.YtafickhhdemjnaaGreatDoorEg3
import Derived.Deep.RegionHeld3
import Derived.Deep.CutBlock
namespace Go.Proofs.YtafickhhdemjnaaGreatDoor
open Go.RowKit
set_option linter.unusedVariables false
set_option maxRecDepth 100000

theorem Bk.lv16 {P : Pool} {lv : Nat} {ps : List Nat} {N : Nodes} {S : Sheets} (h : Bk P 16 lv ps N S) : lv = 16 := by
  obtain ⟨e, he, rfl⟩ := h.pow
  have h1 := h.nlv
  have h2 := h.lvn
  obtain rfl | rfl | rfl | rfl | rfl | rfl | rfl : e = 0 ∨ e = 1 ∨ e = 2 ∨ e = 3 ∨ e = 4 ∨ e = 5 ∨ e = 6 := by omega
  all_goals first | rfl | (exfalso; omega)
/-- The slot that a deed has changed, put into the book. -/
def putJ (T : Sheets) (S : St) (j : Int) (op : Nat) : Sheets := if 0 ≤ j then putS 16 T j op (slB (S[j.toNat]?.getD none)) else T
set_option maxRecDepth 1000000 in
set_option maxHeartbeats 6400000 in
theorem doS_any {N X g Sh Rl op kop kg ev i : Nat} {tp : List Nat} {tN : Nodes} {P : Pool} {T : Sheets} {S : St} {ps : List Pl} {p : Pl} {k q : Int} {nm tx : ByteArray} {n m : Int} {cs : List Comp} {w0 w : World}
    (hin : inC w0 ∈ cs) (hT0 : Tab w0) (hS : OkS N S) (hN : N < 1152921504606846976) (hB : Bk P 16 16 tp tN T) (h8 : ps.length = 8) (hi : i < 8) (hp : ps[i]? = some p) (hq : 1 ≤ q ∧ q ≤ 1099511627776) (ho : 1 ≤ op ∧ op ≤ 1099511627776) (hk : chkA k nm.size tx.size n m = 0) (hnew : p.on = true → p.n < q ∧ p.a < op)
    (A : All (blkC X (engV op g Sh Rl kop kg ev) 92 :: poolC P :: blkC g (bookL 16 16 tp) 180 :: (shL Sh S ++ (rollL Rl ps ++ cs))) w) :
    Calls Tryz.prog 85 #[.pointer (some ⟨X, 0, none⟩), entV i q k nm tx n m] w fun e w' => ∃ S' c x items j so sc s' P' tp' tN', e = .returned (resV c x (.slice so (List.length items) sc)) ∧ Deed S nm tx n m k S' c x items j ∧ Bk P' 16 16 tp' tN' (putS 16 (putJ T S' j op) (8 + (i : Int)) op (rowB q op c x items)) ∧ (∀ y ∈ P, y ∈ P') ∧
      All (ownC 9 (.slice so items.length sc) (txtV items) :: blkC X (engV op g Sh Rl kop kg ev) 92 :: poolC P' :: blkC g (bookL 16 16 tp') 180 :: (shL Sh S' ++ (rollL Rl (ps.set i ⟨true, q, op, c, x, s', items⟩) ++ cs))) w' := by
  obtain ⟨E, hE⟩ : ∃ E, Hid (E = w.heap.size) := ⟨_, hid rfl⟩
  have A0 : Hid (All (shL Sh S ++ ([blkC X (engV op g Sh Rl kop kg ev) 92, poolC P, blkC g (bookL 16 16 tp) 180] ++ (rollL Rl ps ++ cs))) w) := hid (A.perm (List.perm_append_comm_assoc [_, _, _] _ _))
  have A1 := hid ((A.addBlk [.int .i64 (i : Int), .int .i64 q, .int .i64 k, .string nm, .string tx, .int .i64 n, .int .i64 m] 36).addBlk [.int .i64 0, .int .i64 0, .slice none 0 0] 56)
  have sz : ∀ (V : World) (o : Obj), (V.alloc o).heap.size = V.heap.size + 1 := fun V o => by simp
  rw [sz, ← hE.out] at A1
  obtain ⟨XC, hXC⟩ : ∃ XC, Hid (XC = engV op g Sh Rl kop kg ev) := ⟨_, hid rfl⟩
  rw [← hXC.out] at A1 ⊢
  have TAB : Hid (∀ cs' W, inC w0 ∈ cs' → All cs' W → Tab W) := hid (fun cs' W hm h => hT0.below (h.into hm))
  have D0 : Hid (∀ Z W, inC w0 ∈ Z → All (shL Sh S ++ Z) W → Calls Tryz.prog 122 #[.pointer (some ⟨Sh, 0, none⟩), .agg #[.int .i64 k, .string nm, .string tx, .int .i64 n, .int .i64 m]] W fun e w' => ∃ S' c x items j so sc, e = .returned (.tuple #[.agg #[.int .i64 c, .int .i64 x, .slice so (List.length items) sc], .int .i64 j, .int .i64 0]) ∧ Deed S nm tx n m k S' c x items j ∧ All (shL Sh S' ++ (ownC 9 (.slice so items.length sc) (txtV items) :: Z)) w') := hid (fun Z W hz h => Do_any hS hN (fun w' hw => TAB.out _ w' (by simp [hz]) hw) hk h)
  have X0 : Hid (XC[0]? = some (.int .i64 (op : Int)) ∧ XC[1]? = some (.pointer (some ⟨g, 0, none⟩)) ∧ XC[2]? = some (.pointer (some ⟨Sh, 0, none⟩)) ∧ XC[3]? = some (.pointer (some ⟨Rl, 0, none⟩))) := hid (by rw [hXC.out]; exact ⟨rfl, rfl, rfl, rfl⟩)
  clear A hXC
  unfold entV
  go_enter Tryz.func85, Tryz.ntmps85
  go_upto_region 1 with fail
  simp only [← hE.out]
  generalize (w.alloc (.cells #[.int .i64 (i : Int), .int .i64 q, .int .i64 k, .string nm, .string tx, .int .i64 n, .int .i64 m] 36)).alloc (.cells #[.int .i64 0, .int .i64 0, .slice none 0 0] 56) = w1 at *
  clear sz
  obtain ⟨R, hR⟩ : ∃ R, Hid (R = E + 1) := ⟨_, hid rfl⟩
  rw [← hR.out] at A1
  simp only [← hR.out]
  clear hR
  have z1 := hid (A1.out.alloc (.cells #[.int .i64 0, .int .i64 0, .slice none 0 0] 56))
  have xb : ∀ j v, XC[j]? = some v → w1.cell? ⟨X, j, none⟩ = some v := fun j v h => cell_in A1.out (C := XC) (t := 92) (by simp) h
  have x2 := xb 2 _ X0.out.2.2.1
  have eb : ∀ j v, ([.int .i64 (i : Int), .int .i64 q, .int .i64 k, .string nm, .string tx, .int .i64 n, .int .i64 m] : List Value)[j]? = some v → w1.cell? ⟨E, j, none⟩ = some v := fun j v h => cell_in A1.out (t := 36) (by simp) h
  have e2 := eb 2 _ rfl
  have e3 := eb 3 _ rfl
  have e4 := eb 4 _ rfl
  have e5 := eb 5 _ rfl
  have e6 := eb 6 _ rfl
  have lX : X < w1.heap.size := lt_in A1.out (C := XC) (t := 92) (by simp)
  have lE : E < w1.heap.size := lt_in A1.out (C := [.int .i64 (i : Int), .int .i64 q, .int .i64 k, .string nm, .string tx, .int .i64 n, .int .i64 m]) (t := 36) (by simp)
  clear xb eb
  have DA : Hid (Calls Tryz.prog 122 #[.pointer (some ⟨Sh, 0, none⟩), .agg #[.int .i64 k, .string nm, .string tx, .int .i64 n, .int .i64 m]] w1.drew fun e w' => ∃ S' c x items j so sc, e = .returned (.tuple #[.agg #[.int .i64 c, .int .i64 x, .slice so (List.length items) sc], .int .i64 j, .int .i64 0]) ∧ Hid (Deed S nm tx n m k S' c x items j) ∧ Hid (All (shL Sh S' ++ (rollL Rl ps ++ (ownC 9 (.slice so items.length sc) (txtV items) :: blkC R [.int .i64 0, .int .i64 0, .slice none 0 0] 56 :: blkC E [.int .i64 (i : Int), .int .i64 q, .int .i64 k, .string nm, .string tx, .int .i64 n, .int .i64 m] 36 :: blkC X XC 92 :: poolC P :: blkC g (bookL 16 16 tp) 180 :: cs))) w')) := hid (by
    refine (D0.out ([blkC R [.int .i64 0, .int .i64 0, .slice none 0 0] 56, blkC E [.int .i64 (i : Int), .int .i64 q, .int .i64 k, .string nm, .string tx, .int .i64 n, .int .i64 m] 36, blkC X XC 92, poolC P, blkC g (bookL 16 16 tp) 180] ++ (rollL Rl ps ++ cs)) w1.drew (by simp [hin]) ((A1.out.perm (List.perm_append_comm_assoc [_, _, _, _, _] _ _)).drew)).mono ?_
    rintro e w' ⟨S', c, x, items, j, so, sc, rfl, hD, hA⟩
    exact ⟨S', c, x, items, j, so, sc, rfl, hid hD, hid (hA.perm ((List.perm_append_comm_assoc [_, _, _, _, _, _] (rollL Rl ps) cs).append_left _))⟩)
  have DB : Hid (Calls Tryz.prog 122 #[.pointer (some ⟨Sh, 0, none⟩), .agg #[.int .i64 k, .string nm, .string tx, .int .i64 n, .int .i64 m]] (w1.alloc (.cells #[.int .i64 0, .int .i64 0, .slice none 0 0] 56)).drew fun e w' => ∃ S' c x items j so sc, e = .returned (.tuple #[.agg #[.int .i64 c, .int .i64 x, .slice so (List.length items) sc], .int .i64 j, .int .i64 0]) ∧ Hid (Deed S nm tx n m k S' c x items j) ∧ Hid (All (shL Sh S' ++ (rollL Rl ps ++ (blkC w1.heap.size [.int .i64 0, .int .i64 0, .slice none 0 0] 56 :: ownC 9 (.slice so items.length sc) (txtV items) :: blkC R [.int .i64 0, .int .i64 0, .slice none 0 0] 56 :: blkC E [.int .i64 (i : Int), .int .i64 q, .int .i64 k, .string nm, .string tx, .int .i64 n, .int .i64 m] 36 :: blkC X XC 92 :: poolC P :: blkC g (bookL 16 16 tp) 180 :: cs))) w') ∧ w'.cell? ⟨w1.heap.size, 0, none⟩ = some (.int .i64 0) ∧ w'.cell? ⟨w1.heap.size, 1, none⟩ = some (.int .i64 0) ∧ w'.cell? ⟨w1.heap.size, 2, none⟩ = some (.slice none 0 0) ∧ w'.frozen? ⟨w1.heap.size, 0, none⟩ = false ∧ w'.frozen? ⟨w1.heap.size, 1, none⟩ = false ∧ w'.frozen? ⟨w1.heap.size, 2, none⟩ = false ∧ w1.heap.size < w'.heap.size) := hid (by
    refine (D0.out ([blkC w1.heap.size [.int .i64 0, .int .i64 0, .slice none 0 0] 56, blkC R [.int .i64 0, .int .i64 0, .slice none 0 0] 56, blkC E [.int .i64 (i : Int), .int .i64 q, .int .i64 k, .string nm, .string tx, .int .i64 n, .int .i64 m] 36, blkC X XC 92, poolC P, blkC g (bookL 16 16 tp) 180] ++ (rollL Rl ps ++ cs)) (w1.alloc (.cells #[.int .i64 0, .int .i64 0, .slice none 0 0] 56)).drew (by simp [hin]) (((A1.out.addBlk [.int .i64 0, .int .i64 0, .slice none 0 0] 56).perm (List.perm_append_comm_assoc [_, _, _, _, _, _] _ _)).drew)).mono ?_
    rintro e w' ⟨S', c, x, items, j, so, sc, rfl, hD, hA⟩
    have hA2 : All (shL Sh S' ++ (rollL Rl ps ++ (blkC w1.heap.size [.int .i64 0, .int .i64 0, .slice none 0 0] 56 :: ownC 9 (.slice so items.length sc) (txtV items) :: blkC R [.int .i64 0, .int .i64 0, .slice none 0 0] 56 :: blkC E [.int .i64 (i : Int), .int .i64 q, .int .i64 k, .string nm, .string tx, .int .i64 n, .int .i64 m] 36 :: blkC X XC 92 :: poolC P :: blkC g (bookL 16 16 tp) 180 :: cs))) w' := (hA.perm (((List.perm_append_comm_assoc [_, _, _, _, _, _, _] (rollL Rl ps) cs).append_left _).trans (((List.Perm.swap _ _ _).append_left _).append_left _)))
    have hm : blkC w1.heap.size [.int .i64 0, .int .i64 0, .slice none 0 0] 56 ∈ (shL Sh S' ++ (rollL Rl ps ++ (blkC w1.heap.size [.int .i64 0, .int .i64 0, .slice none 0 0] 56 :: ownC 9 (.slice so items.length sc) (txtV items) :: blkC R [.int .i64 0, .int .i64 0, .slice none 0 0] 56 :: blkC E [.int .i64 (i : Int), .int .i64 q, .int .i64 k, .string nm, .string tx, .int .i64 n, .int .i64 m] 36 :: blkC X XC 92 :: poolC P :: blkC g (bookL 16 16 tp) 180 :: cs))) := by simp
    exact ⟨S', c, x, items, j, so, sc, rfl, hid hD, hid hA2, cell_in hA2 hm rfl, cell_in hA2 hm rfl, cell_in hA2 hm rfl, free_in hA2 hm 0, free_in hA2 hm 1, free_in hA2 hm 2, lt_in hA2 hm⟩)
  clear D0 A1 z1 TAB
  go_cut [5, 6, 7] from 8 to 18 (fun rv jv ev wx => ∃ wy, wy = wx ∧ ∃ (b : Nat) (S' : St) (c x : Int) (items : List ByteArray) (j : Int) (so : Option Addr) (sc : Nat), rv = .pointer (some ⟨b, 0, none⟩) ∧ jv = .int .i64 j ∧ ev = .int .i64 0 ∧ Hid (Deed S nm tx n m k S' c x items j) ∧ Hid (All (shL Sh S' ++ (rollL Rl ps ++ (blkC b [.int .i64 c, .int .i64 x, .slice so items.length sc] 56 :: ownC 9 (.slice so items.length sc) (txtV items) :: blkC R [.int .i64 0, .int .i64 0, .slice none 0 0] 56 :: blkC E [.int .i64 (i : Int), .int .i64 q, .int .i64 k, .string nm, .string tx, .int .i64 n, .int .i64 m] 36 :: blkC X XC 92 :: poolC P :: blkC g (bookL 16 16 tp) 180 :: cs))) wx))
  case first =>
    go_region_law (go_simp; first | (go_at_call 122; refine DA.out.mono ?_; rintro e w3 ⟨S', c, x, items, j, so, sc, rfl, HD, HA⟩) | (go_at_call 122; refine DB.out.mono ?_; rintro e w3 ⟨S', c, x, items, j, so, sc, rfl, HD, HA, q0, q1, q2, f0, f1, f2, lq⟩))
    all_goals (go_wp2_with fail; go_meet)
    all_goals first
      | exact ⟨_, rfl, _, S', c, x, items, j, so, sc, rfl, rfl, rfl, HD, hid (HA.out.addBlk [.int .i64 c, .int .i64 x, .slice so items.length sc] 56).in2⟩
      | exact ⟨_, rfl, _, S', c, x, items, j, so, sc, rfl, rfl, rfl, HD, hid (((HA.out.out2.setBlk 0 (.int .i64 c)).setBlk 1 (.int .i64 x)).setBlk 2 (.slice so items.length sc)).in2⟩
      | exact ⟨_, rfl, _, S', c, x, items, j, so, sc, rfl, rfl, rfl, HD, hid (((HA.out.out2.setBlk 0 (.int .i64 c)).setBlk 1 (.int .i64 x)).setBlk 2 (.slice so items.length sc)).in2.drew⟩
  case rest =>
  obtain ⟨wx, rfl, b, S', c, x, items, j, so, sc, rfl, rfl, rfl, HD, HA⟩ := hcut
  clear x2 e2 e3 e4 e5 e6 lX lE DA DB
  have HOK : Hid (OkS (N + 1) S') := hid (deed_ok hS (fun a b h => tidy_of A0.out a b h) hk HD.out)
  have HRG := hid (deed_range hS HD.out)
  have HRS := hid (deed_res hS hk HD.out)
  have XS : Hid (∀ (cs' : List Comp) (W : World), All cs' W → blkC X XC 92 ∈ cs' → blkC E [.int .i64 (i : Int), .int .i64 q, .int .i64 k, .string nm, .string tx, .int .i64 n, .int .i64 m] 36 ∈ cs' → W.cell? ⟨X, 0, none⟩ = some (.int .i64 (op : Int)) ∧ W.cell? ⟨X, 1, none⟩ = some (.pointer (some ⟨g, 0, none⟩)) ∧ W.cell? ⟨X, 2, none⟩ = some (.pointer (some ⟨Sh, 0, none⟩)) ∧ W.cell? ⟨X, 3, none⟩ = some (.pointer (some ⟨Rl, 0, none⟩)) ∧ W.cell? ⟨E, 0, none⟩ = some (.int .i64 (i : Int)) ∧ W.cell? ⟨E, 1, none⟩ = some (.int .i64 q)) := hid (fun cs' W h h1 h2 => ⟨cell_in h h1 X0.out.1, cell_in h h1 X0.out.2.1, cell_in h h1 X0.out.2.2.1, cell_in h h1 X0.out.2.2.2, cell_in h h2 rfl, cell_in h h2 rfl⟩)
  have xs := hid (XS.out _ wx HA.out (by simp) (by simp))
  clear X0
  have BK := hid hB
  have q0 := hid (by obtain ⟨a0, a1, a2, _⟩ := xs.out; exact (⟨a0, a1, a2⟩ : wx.cell? ⟨X, 0, none⟩ = some (.int .i64 (op : Int)) ∧ wx.cell? ⟨X, 1, none⟩ = some (.pointer (some ⟨g, 0, none⟩)) ∧ wx.cell? ⟨X, 2, none⟩ = some (.pointer (some ⟨Sh, 0, none⟩))))
  go_upto_if 20 with fail
  go_cut [6] from 19 to 38 (fun jv wx => ∃ wy, wy = wx ∧ ∃ (P' : Pool) (tp' : List Nat) (tN' : Nodes), jv = .int .i64 j ∧ Hid (Bk P' 16 16 tp' tN' (putJ T S' j op)) ∧ Hid (∀ y ∈ P, y ∈ P') ∧ Hid (All (shL Sh S' ++ (rollL Rl ps ++ (blkC b [.int .i64 c, .int .i64 x, .slice so items.length sc] 56 :: ownC 9 (.slice so items.length sc) (txtV items) :: blkC R [.int .i64 0, .int .i64 0, .slice none 0 0] 56 :: blkC E [.int .i64 (i : Int), .int .i64 q, .int .i64 k, .string nm, .string tx, .int .i64 n, .int .i64 m] 36 :: blkC X XC 92 :: poolC P' :: blkC g (bookL 16 16 tp') 180 :: cs))) wx))
  case first =>
    by_cases hj : 0 ≤ j
    · have d1 : decide (j ≥ 0) = true := by simpa using hj
      have d2 : decide (0 ≤ j) = true := by simpa using hj
      obtain ⟨jn, rfl⟩ : ∃ jn : Nat, j = (jn : Int) := ⟨j.toNat, by omega⟩
      obtain ⟨s, hs⟩ : ∃ s, S'[jn]? = some s := ⟨S'[jn]'(by have := HOK.out.len; have := HRG.out; omega), List.getElem?_eq_getElem _⟩
      obtain ⟨bs, hbs⟩ : ∃ bs, Hid (bs = slB s) := ⟨_, hid rfl⟩
      have PJ : Hid (putJ T S' (jn : Int) op = putS 16 T (jn : Int) (op : Int) bs) := hid (by unfold putJ; rw [if_pos (by omega), Int.toNat_natCast, hs, hbs.out]; rfl)
      have C124 : Hid (Calls Tryz.prog 124 #[.pointer (some ⟨Sh, 0, none⟩), .int .i64 (jn : Int)] wx.drew fun e w' => ∃ so2 sc2, e = .returned (.slice so2 bs.length sc2) ∧ Hid (All (ownC 5 (.slice so2 bs.length sc2) (cellsB bs) :: (shL Sh S' ++ (rollL Rl ps ++ (blkC b [.int .i64 c, .int .i64 x, .slice so items.length sc] 56 :: ownC 9 (.slice so items.length sc) (txtV items) :: blkC R [.int .i64 0, .int .i64 0, .slice none 0 0] 56 :: blkC E [.int .i64 (i : Int), .int .i64 q, .int .i64 k, .string nm, .string tx, .int .i64 n, .int .i64 m] 36 :: blkC X XC 92 :: poolC P :: blkC g (bookL 16 16 tp) 180 :: cs)))) w')) := hid (by
        rw [hbs.out]
        refine (Slot_st HOK.out hs HA.out.drew).mono ?_
        rintro e w' ⟨so2, sc2, rfl, h⟩
        exact ⟨so2, sc2, rfl, hid h⟩)
      have C123 : Hid (∀ so2 sc2 W, All (ownC 5 (.slice so2 bs.length sc2) (cellsB bs) :: (shL Sh S' ++ (rollL Rl ps ++ (blkC b [.int .i64 c, .int .i64 x, .slice so items.length sc] 56 :: ownC 9 (.slice so items.length sc) (txtV items) :: blkC R [.int .i64 0, .int .i64 0, .slice none 0 0] 56 :: blkC E [.int .i64 (i : Int), .int .i64 q, .int .i64 k, .string nm, .string tx, .int .i64 n, .int .i64 m] 36 :: blkC X XC 92 :: poolC P :: blkC g (bookL 16 16 tp) 180 :: cs)))) W → Calls Tryz.prog 123 #[.pointer (some ⟨g, 0, none⟩), .int .i64 (jn : Int), .int .i64 (op : Int), .slice so2 bs.length sc2] W fun e w' => ∃ v P' tp' tN', e = .returned (.int .i64 v) ∧ Hid (Bk P' 16 16 tp' tN' (putS 16 T (jn : Int) (op : Int) bs)) ∧ Hid (∀ y ∈ P, y ∈ P') ∧ Hid (All (shL Sh S' ++ (rollL Rl ps ++ (blkC b [.int .i64 c, .int .i64 x, .slice so items.length sc] 56 :: ownC 9 (.slice so items.length sc) (txtV items) :: blkC R [.int .i64 0, .int .i64 0, .slice none 0 0] 56 :: blkC E [.int .i64 (i : Int), .int .i64 q, .int .i64 k, .string nm, .string tx, .int .i64 n, .int .i64 m] 36 :: blkC X XC 92 :: poolC P' :: blkC g (bookL 16 16 tp') 180 :: cs))) w')) := hid (fun so2 sc2 W h => by
        have h2 : All (poolC P :: blkC g (bookL 16 16 tp) 180 :: ([ownC 5 (.slice so2 bs.length sc2) (cellsB bs)] ++ (shL Sh S' ++ (rollL Rl ps ++ ([blkC b [.int .i64 c, .int .i64 x, .slice so items.length sc] 56, ownC 9 (.slice so items.length sc) (txtV items), blkC R [.int .i64 0, .int .i64 0, .slice none 0 0] 56, blkC E [.int .i64 (i : Int), .int .i64 q, .int .i64 k, .string nm, .string tx, .int .i64 n, .int .i64 m] 36, blkC X XC 92] ++ cs))))) W := by
          refine h.perm ?_
          have := perm_by 6 [[ownC 5 (.slice so2 bs.length sc2) (cellsB bs)], shL Sh S', rollL Rl ps, [blkC b [.int .i64 c, .int .i64 x, .slice so items.length sc] 56, ownC 9 (.slice so items.length sc) (txtV items), blkC R [.int .i64 0, .int .i64 0, .slice none 0 0] 56, blkC E [.int .i64 (i : Int), .int .i64 q, .int .i64 k, .string nm, .string tx, .int .i64 n, .int .i64 m] 36, blkC X XC 92], [poolC P, blkC g (bookL 16 16 tp) 180], cs] [4, 0, 1, 2, 3, 5] rfl (by decide)
          simpa [List.getD] using this
        refine (Put_all h2 BK.out (readsS_mem (l := bs) h (by simp))).mono ?_
        rintro e w' ⟨rfl, P', lv', tp', tN', hA2, hB2, hsub⟩
        obtain rfl := hB2.lv16
        refine ⟨_, P', tp', tN', rfl, hid hB2, hid hsub, hid ?_⟩
        have h3 : All (poolC P' :: blkC g (bookL 16 16 tp') 180 :: (shL Sh S' ++ (rollL Rl ps ++ ([blkC b [.int .i64 c, .int .i64 x, .slice so items.length sc] 56, ownC 9 (.slice so items.length sc) (txtV items), blkC R [.int .i64 0, .int .i64 0, .slice none 0 0] 56, blkC E [.int .i64 (i : Int), .int .i64 q, .int .i64 k, .string nm, .string tx, .int .i64 n, .int .i64 m] 36, blkC X XC 92] ++ cs)))) w' := (hA2.perm (((List.Perm.swap _ _ _).cons _).trans (List.Perm.swap _ _ _))).tail
        refine h3.perm ?_
        have := perm_by 5 [[poolC P', blkC g (bookL 16 16 tp') 180], shL Sh S', rollL Rl ps, [blkC b [.int .i64 c, .int .i64 x, .slice so items.length sc] 56, ownC 9 (.slice so items.length sc) (txtV items), blkC R [.int .i64 0, .int .i64 0, .slice none 0 0] 56, blkC E [.int .i64 (i : Int), .int .i64 q, .int .i64 k, .string nm, .string tx, .int .i64 n, .int .i64 m] 36, blkC X XC 92], cs] [1, 2, 3, 0, 4] rfl (by decide)
        simpa [List.getD] using this)
      clear hs hbs
      go_wp2_with fail
      go_region_held3 (fun W => W.cell? ⟨X, 0, none⟩ = some (.int .i64 (op : Int)) ∧ W.cell? ⟨X, 1, none⟩ = some (.pointer (some ⟨g, 0, none⟩)) ∧ W.cell? ⟨X, 2, none⟩ = some (.pointer (some ⟨Sh, 0, none⟩))) (first | exact q0.out | exact q1.out | exact q2.out)
        (first
          | (go_at_call 124; refine C124.out.mono ?_; rintro e w3 ⟨so2, sc2, rfl, A3⟩; have q1 := hid (by obtain ⟨a0, a1, a2, _⟩ := XS.out _ _ A3.out (by simp) (by simp); exact (⟨a0, a1, a2⟩ : w3.cell? ⟨X, 0, none⟩ = some (.int .i64 (op : Int)) ∧ w3.cell? ⟨X, 1, none⟩ = some (.pointer (some ⟨g, 0, none⟩)) ∧ w3.cell? ⟨X, 2, none⟩ = some (.pointer (some ⟨Sh, 0, none⟩)))))
          | (go_at_call 123; refine (C123.out _ _ _ A3.out).mono ?_; rintro e w4 ⟨v4, P', tp', tN', rfl, B4, S4, A4⟩; have q2 := hid (by obtain ⟨a0, a1, a2, _⟩ := XS.out _ _ A4.out (by simp) (by simp); exact (⟨a0, a1, a2⟩ : w4.cell? ⟨X, 0, none⟩ = some (.int .i64 (op : Int)) ∧ w4.cell? ⟨X, 1, none⟩ = some (.pointer (some ⟨g, 0, none⟩)) ∧ w4.cell? ⟨X, 2, none⟩ = some (.pointer (some ⟨Sh, 0, none⟩))))))
      go_wp2_with fail
      go_meet
      exact ⟨_, rfl, P', tp', tN', rfl, hid (by rw [PJ.out]; exact B4.out), S4, A4⟩
    · have d1 : decide (j ≥ 0) = false := by simpa using hj
      have d2 : decide (0 ≤ j) = false := by simpa using hj
      have PJ : Hid (putJ T S' j op = T) := hid (by unfold putJ; rw [if_neg hj])
      go_wp2_with fail
      go_meet
      exact ⟨_, rfl, P, tp, tN, rfl, hid (by rw [PJ.out]; exact BK.out), hid (fun _ h => h), HA⟩
  case rest =>
  obtain ⟨wz, rfl, P', tp', tN', rfl, B4, S4, A4⟩ := hcut
  clear q0 xs HA BK
  have MAY : Hid (may q op c x items = true) := hid (by unfold may; have := HRS.out; simp; omega)
  have C125 : Hid (Calls Tryz.prog 125 #[.pointer (some ⟨Rl, 0, none⟩), .int .i64 (i : Int), .agg #[.int .i64 q, .int .i64 (op : Int), .int .i64 c, .int .i64 x, .slice so items.length sc]] wz.drew fun e w' => e = .returned (.int .i64 0) ∧ ∃ s', Hid (All (shL Sh S' ++ (rollL Rl (ps.set i ⟨true, q, op, c, x, s', items⟩) ++ (blkC b [.int .i64 c, .int .i64 x, .slice so items.length sc] 56 :: ownC 9 (.slice so items.length sc) (txtV items) :: blkC R [.int .i64 0, .int .i64 0, .slice none 0 0] 56 :: blkC E [.int .i64 (i : Int), .int .i64 q, .int .i64 k, .string nm, .string tx, .int .i64 n, .int .i64 m] 36 :: blkC X XC 92 :: poolC P' :: blkC g (bookL 16 16 tp') 180 :: cs))) w')) := hid (by
    have h1 : All (rollL Rl ps ++ (shL Sh S' ++ (blkC b [.int .i64 c, .int .i64 x, .slice so items.length sc] 56 :: ownC 9 (.slice so items.length sc) (txtV items) :: blkC R [.int .i64 0, .int .i64 0, .slice none 0 0] 56 :: blkC E [.int .i64 (i : Int), .int .i64 q, .int .i64 k, .string nm, .string tx, .int .i64 n, .int .i64 m] 36 :: blkC X XC 92 :: poolC P' :: blkC g (bookL 16 16 tp') 180 :: cs))) wz.drew := (A4.out.perm (List.perm_append_comm_assoc _ _ _)).drew
    have hlen := (may_parts MAY.out).2.2.2.2.2.2.2.2.2.1
    have hg : ps.getD i .zero = p := by rw [List.getD_eq_getElem?_getD, hp]; rfl
    have hz : setE ps (i : Int) q op c x items = 0 := by
      unfold setE
      rw [if_neg (by omega), if_neg (by rw [MAY.out]; decide), if_neg]
      rw [Int.toNat_natCast, hg]
      exact fun h => h.2 (hnew h.1)
    refine (set_any h1 h8 (txts_mem (l := items) h1 (by simp [txtV, cellsT])) (by omega)).mono ?_
    rintro e w' ⟨rfl, ps', hA, hcase⟩
    rw [hz] at hcase ⊢
    rcases hcase with ⟨h, _⟩ | ⟨_, s', rfl⟩
    · exact absurd rfl h
    · rw [Int.toNat_natCast] at hA
      exact ⟨rfl, s', hid (hA.perm (List.perm_append_comm_assoc _ _ _))⟩)
  have YS : Hid (∀ (cs' : List Comp) (W : World), All cs' W → blkC X XC 92 ∈ cs' → blkC E [.int .i64 (i : Int), .int .i64 q, .int .i64 k, .string nm, .string tx, .int .i64 n, .int .i64 m] 36 ∈ cs' → blkC b [.int .i64 c, .int .i64 x, .slice so items.length sc] 56 ∈ cs' → W.cell? ⟨X, 0, none⟩ = some (.int .i64 (op : Int)) ∧ W.cell? ⟨X, 3, none⟩ = some (.pointer (some ⟨Rl, 0, none⟩)) ∧ W.cell? ⟨E, 0, none⟩ = some (.int .i64 (i : Int)) ∧ W.cell? ⟨E, 1, none⟩ = some (.int .i64 q) ∧ W.cell? ⟨b, 0, none⟩ = some (.int .i64 c) ∧ W.cell? ⟨b, 1, none⟩ = some (.int .i64 x) ∧ W.cell? ⟨b, 2, none⟩ = some (.slice so items.length sc)) := hid (fun cs' W h h1 h2 h3 => by
    obtain ⟨a0, a1, a2, a3, a4, a5⟩ := XS.out cs' W h h1 h2
    exact ⟨a0, a3, a4, a5, cell_in h h3 rfl, cell_in h h3 rfl, cell_in h h3 rfl⟩)
  have q0 := hid (YS.out _ wz A4.out (by simp) (by simp) (by simp))
  go_upto_region 4 with fail
  go_region_held3 (fun W => W.cell? ⟨X, 0, none⟩ = some (.int .i64 (op : Int)) ∧ W.cell? ⟨X, 3, none⟩ = some (.pointer (some ⟨Rl, 0, none⟩)) ∧ W.cell? ⟨E, 0, none⟩ = some (.int .i64 (i : Int)) ∧ W.cell? ⟨E, 1, none⟩ = some (.int .i64 q) ∧ W.cell? ⟨b, 0, none⟩ = some (.int .i64 c) ∧ W.cell? ⟨b, 1, none⟩ = some (.int .i64 x) ∧ W.cell? ⟨b, 2, none⟩ = some (.slice so items.length sc)) (first | exact q0.out | exact q1.out)
    (first
      | (go_at_call 125; refine C125.out.mono ?_; rintro e w5 ⟨rfl, s', A5⟩; have q1 := hid (YS.out _ w5 A5.out (by simp) (by simp) (by simp))))
  clear q0 C125 A4
  obtain ⟨qs, hqs⟩ : ∃ qs, Hid (qs = (ps.set i ⟨true, q, op, c, x, s', items⟩)) := ⟨_, hid rfl⟩
  have HQ : Hid (qs[i]? = some ⟨true, q, op, c, x, s', items⟩) := hid (by rw [hqs.out, List.getElem?_set_self (by omega)])
  rw [← hqs.out] at A5
  obtain ⟨bs, hbs⟩ : ∃ bs, Hid (bs = rowB q op c x items) := ⟨_, hid rfl⟩
  have C126 : Hid (Calls Tryz.prog 126 #[.pointer (some ⟨Rl, 0, none⟩), .int .i64 (i : Int)] w5.drew fun e w' => ∃ so2 sc2, e = .returned (.slice so2 bs.length sc2) ∧ Hid (All (ownC 5 (.slice so2 bs.length sc2) (cellsB bs) :: (shL Sh S' ++ (rollL Rl qs ++ (blkC b [.int .i64 c, .int .i64 x, .slice so items.length sc] 56 :: ownC 9 (.slice so items.length sc) (txtV items) :: blkC R [.int .i64 0, .int .i64 0, .slice none 0 0] 56 :: blkC E [.int .i64 (i : Int), .int .i64 q, .int .i64 k, .string nm, .string tx, .int .i64 n, .int .i64 m] 36 :: blkC X XC 92 :: poolC P' :: blkC g (bookL 16 16 tp') 180 :: cs)))) w')) := hid (by
    rw [hbs.out]
    have h1 : All (rollL Rl qs ++ (shL Sh S' ++ (blkC b [.int .i64 c, .int .i64 x, .slice so items.length sc] 56 :: ownC 9 (.slice so items.length sc) (txtV items) :: blkC R [.int .i64 0, .int .i64 0, .slice none 0 0] 56 :: blkC E [.int .i64 (i : Int), .int .i64 q, .int .i64 k, .string nm, .string tx, .int .i64 n, .int .i64 m] 36 :: blkC X XC 92 :: poolC P' :: blkC g (bookL 16 16 tp') 180 :: cs))) w5.drew := (A5.out.perm (List.perm_append_comm_assoc _ _ _)).drew
    refine (bytes_on h1 HQ.out hi rfl MAY.out).mono ?_
    rintro e w' ⟨so2, sc2, rfl, h⟩
    exact ⟨so2, sc2, rfl, hid (h.perm ((List.perm_append_comm_assoc _ _ _).cons _))⟩)
  have C123 : Hid (∀ so2 sc2 W, All (ownC 5 (.slice so2 bs.length sc2) (cellsB bs) :: (shL Sh S' ++ (rollL Rl qs ++ (blkC b [.int .i64 c, .int .i64 x, .slice so items.length sc] 56 :: ownC 9 (.slice so items.length sc) (txtV items) :: blkC R [.int .i64 0, .int .i64 0, .slice none 0 0] 56 :: blkC E [.int .i64 (i : Int), .int .i64 q, .int .i64 k, .string nm, .string tx, .int .i64 n, .int .i64 m] 36 :: blkC X XC 92 :: poolC P' :: blkC g (bookL 16 16 tp') 180 :: cs)))) W → Calls Tryz.prog 123 #[.pointer (some ⟨g, 0, none⟩), .int .i64 (8 + (i : Int)), .int .i64 (op : Int), .slice so2 bs.length sc2] W fun e w' => ∃ v P'' tp'' tN'', e = .returned (.int .i64 v) ∧ Hid (Bk P'' 16 16 tp'' tN'' (putS 16 (putJ T S' j op) (8 + (i : Int)) (op : Int) bs)) ∧ Hid (∀ y ∈ P', y ∈ P'') ∧ Hid (All (shL Sh S' ++ (rollL Rl qs ++ (blkC b [.int .i64 c, .int .i64 x, .slice so items.length sc] 56 :: ownC 9 (.slice so items.length sc) (txtV items) :: blkC R [.int .i64 0, .int .i64 0, .slice none 0 0] 56 :: blkC E [.int .i64 (i : Int), .int .i64 q, .int .i64 k, .string nm, .string tx, .int .i64 n, .int .i64 m] 36 :: blkC X XC 92 :: poolC P'' :: blkC g (bookL 16 16 tp'') 180 :: cs))) w')) := hid (fun so2 sc2 W h => by
    have h2 : All (poolC P' :: blkC g (bookL 16 16 tp') 180 :: ([ownC 5 (.slice so2 bs.length sc2) (cellsB bs)] ++ (shL Sh S' ++ (rollL Rl qs ++ ([blkC b [.int .i64 c, .int .i64 x, .slice so items.length sc] 56, ownC 9 (.slice so items.length sc) (txtV items), blkC R [.int .i64 0, .int .i64 0, .slice none 0 0] 56, blkC E [.int .i64 (i : Int), .int .i64 q, .int .i64 k, .string nm, .string tx, .int .i64 n, .int .i64 m] 36, blkC X XC 92] ++ cs))))) W := by
      refine h.perm ?_
      have := perm_by 6 [[ownC 5 (.slice so2 bs.length sc2) (cellsB bs)], shL Sh S', rollL Rl qs, [blkC b [.int .i64 c, .int .i64 x, .slice so items.length sc] 56, ownC 9 (.slice so items.length sc) (txtV items), blkC R [.int .i64 0, .int .i64 0, .slice none 0 0] 56, blkC E [.int .i64 (i : Int), .int .i64 q, .int .i64 k, .string nm, .string tx, .int .i64 n, .int .i64 m] 36, blkC X XC 92], [poolC P', blkC g (bookL 16 16 tp') 180], cs] [4, 0, 1, 2, 3, 5] rfl (by decide)
      simpa [List.getD] using this
    refine (Put_all h2 B4.out (readsS_mem (l := bs) h (by simp))).mono ?_
    rintro e w' ⟨rfl, P'', lv', tp'', tN'', hA2, hB2, hsub⟩
    obtain rfl := hB2.lv16
    refine ⟨_, P'', tp'', tN'', rfl, hid hB2, hid hsub, hid ?_⟩
    have h3 : All (poolC P'' :: blkC g (bookL 16 16 tp'') 180 :: (shL Sh S' ++ (rollL Rl qs ++ ([blkC b [.int .i64 c, .int .i64 x, .slice so items.length sc] 56, ownC 9 (.slice so items.length sc) (txtV items), blkC R [.int .i64 0, .int .i64 0, .slice none 0 0] 56, blkC E [.int .i64 (i : Int), .int .i64 q, .int .i64 k, .string nm, .string tx, .int .i64 n, .int .i64 m] 36, blkC X XC 92] ++ cs)))) w' := (hA2.perm (((List.Perm.swap _ _ _).cons _).trans (List.Perm.swap _ _ _))).tail
    refine h3.perm ?_
    have := perm_by 5 [[poolC P'', blkC g (bookL 16 16 tp'') 180], shL Sh S', rollL Rl qs, [blkC b [.int .i64 c, .int .i64 x, .slice so items.length sc] 56, ownC 9 (.slice so items.length sc) (txtV items), blkC R [.int .i64 0, .int .i64 0, .slice none 0 0] 56, blkC E [.int .i64 (i : Int), .int .i64 q, .int .i64 k, .string nm, .string tx, .int .i64 n, .int .i64 m] 36, blkC X XC 92], cs] [1, 2, 3, 0, 4] rfl (by decide)
    simpa [List.getD] using this)
  have ZS : Hid (∀ (cs' : List Comp) (W : World), All cs' W → blkC X XC 92 ∈ cs' → blkC E [.int .i64 (i : Int), .int .i64 q, .int .i64 k, .string nm, .string tx, .int .i64 n, .int .i64 m] 36 ∈ cs' → W.cell? ⟨X, 0, none⟩ = some (.int .i64 (op : Int)) ∧ W.cell? ⟨X, 1, none⟩ = some (.pointer (some ⟨g, 0, none⟩)) ∧ W.cell? ⟨X, 3, none⟩ = some (.pointer (some ⟨Rl, 0, none⟩)) ∧ W.cell? ⟨E, 0, none⟩ = some (.int .i64 (i : Int))) := hid (fun cs' W h h1 h2 => by
    obtain ⟨a0, a1, a2, a3, a4, a5⟩ := XS.out cs' W h h1 h2
    exact ⟨a0, a1, a3, a4⟩)
  have q0 := hid (ZS.out _ w5 A5.out (by simp) (by simp))
  clear q1
  have w8 : IntKind.i64.wrap (8 + (i : Int)) = 8 + (i : Int) := by simp [IntKind.wrap, IntKind.bits, IntKind.signed]; omega
  go_upto_region 5 with fail
  go_region_held3 (fun W => W.cell? ⟨X, 0, none⟩ = some (.int .i64 (op : Int)) ∧ W.cell? ⟨X, 1, none⟩ = some (.pointer (some ⟨g, 0, none⟩)) ∧ W.cell? ⟨X, 3, none⟩ = some (.pointer (some ⟨Rl, 0, none⟩)) ∧ W.cell? ⟨E, 0, none⟩ = some (.int .i64 (i : Int))) (first | exact q0.out | exact q1.out | exact q2.out)
    (first
      | (go_at_call 126; refine C126.out.mono ?_; rintro e w6 ⟨so2, sc2, rfl, A6⟩; have q1 := hid (ZS.out _ w6 A6.out (by simp) (by simp)))
      | (go_at_call 123; refine (C123.out _ _ _ A6.out).mono ?_; rintro e w7 ⟨v7, P'', tp'', tN'', rfl, B7, S7, A7⟩; have q2 := hid (ZS.out _ w7 A7.out (by simp) (by simp))))
  clear q0 q1 q2 C126 C123 A5 A6
  obtain ⟨_, _, _, _, b0, b1, b2⟩ := YS.out _ w7 A7.out (by simp) (by simp) (by simp)
  have AR : Hid (All (blkC R [.int .i64 0, .int .i64 0, .slice none 0 0] 56 :: (ownC 9 (.slice so items.length sc) (txtV items) :: blkC X XC 92 :: poolC P'' :: blkC g (bookL 16 16 tp'') 180 :: (shL Sh S' ++ (rollL Rl qs ++ (blkC b [.int .i64 c, .int .i64 x, .slice so items.length sc] 56 :: blkC E [.int .i64 (i : Int), .int .i64 q, .int .i64 k, .string nm, .string tx, .int .i64 n, .int .i64 m] 36 :: cs))))) w7) := hid (by
    refine A7.out.perm ?_
    have := perm_by 10 [shL Sh S', rollL Rl qs, [blkC b [.int .i64 c, .int .i64 x, .slice so items.length sc] 56], [ownC 9 (.slice so items.length sc) (txtV items)], [blkC R [.int .i64 0, .int .i64 0, .slice none 0 0] 56], [blkC E [.int .i64 (i : Int), .int .i64 q, .int .i64 k, .string nm, .string tx, .int .i64 n, .int .i64 m] 36], [blkC X XC 92], [poolC P''], [blkC g (bookL 16 16 tp'') 180], cs] [4, 3, 6, 7, 8, 0, 1, 2, 5, 9] rfl (by decide)
    simpa [List.getD] using this)
  have r0 := cell_in (o := 0) AR.out List.mem_cons_self rfl
  have r1 := cell_in (o := 1) AR.out List.mem_cons_self rfl
  have r2 := cell_in (o := 2) AR.out List.mem_cons_self rfl
  have f0 := free_in AR.out List.mem_cons_self 0
  have f1 := free_in AR.out List.mem_cons_self 1
  have f2 := free_in AR.out List.mem_cons_self 2
  have lR : R < w7.heap.size := lt_in AR.out List.mem_cons_self
  have FIN : Hid (All (blkC R [.int .i64 c, .int .i64 x, .slice so items.length sc] 56 :: (ownC 9 (.slice so items.length sc) (txtV items) :: blkC X XC 92 :: poolC P'' :: blkC g (bookL 16 16 tp'') 180 :: (shL Sh S' ++ (rollL Rl qs ++ (blkC b [.int .i64 c, .int .i64 x, .slice so items.length sc] 56 :: blkC E [.int .i64 (i : Int), .int .i64 q, .int .i64 k, .string nm, .string tx, .int .i64 n, .int .i64 m] 36 :: cs))))) (((w7.setCell ⟨R, 0, none⟩ (.int .i64 c)).setCell ⟨R, 1, none⟩ (.int .i64 x)).setCell ⟨R, 2, none⟩ (.slice so items.length sc))) := hid (((AR.out.setBlk 0 (.int .i64 c)).setBlk 1 (.int .i64 x)).setBlk 2 (.slice so items.length sc))
  clear A7 YS ZS XS
  go_wp2_with fail
  generalize ((w7.setCell ⟨R, 0, none⟩ (.int .i64 c)).setCell ⟨R, 1, none⟩ (.int .i64 x)).setCell ⟨R, 2, none⟩ (.slice so items.length sc) = w8 at *
  clear r0 r1 r2
  have r0 := cell_in (o := 0) FIN.out List.mem_cons_self rfl
  have r1 := cell_in (o := 1) FIN.out List.mem_cons_self rfl
  have r2 := cell_in (o := 2) FIN.out List.mem_cons_self rfl
  refine bodyPost_ret (v := resV c x (.slice so items.length sc)) (by simp only [results, Tryz.f85]; go_simp) rfl ?_
  refine ⟨S', c, x, items, j, so, sc, s', P'', tp'', tN'', rfl, HD.out, by rw [← hbs.out]; exact B7.out, fun y hy => S7.out y (S4.out y hy), ?_⟩
  rw [← hqs.out]
  have h := FIN.out.tail
  have h2 := perm_by 7 [[ownC 9 (.slice so items.length sc) (txtV items), blkC X XC 92, poolC P'', blkC g (bookL 16 16 tp'') 180], shL Sh S', rollL Rl qs, [blkC b [.int .i64 c, .int .i64 x, .slice so items.length sc] 56], [blkC E [.int .i64 (i : Int), .int .i64 q, .int .i64 k, .string nm, .string tx, .int .i64 n, .int .i64 m] 36], cs, []] [3, 4, 0, 1, 2, 5, 6] rfl (by decide)
  have h3 := h.perm (by simpa [List.getD] using h2)
  exact h3.tail.tail
end Go.Proofs.YtafickhhdemjnaaGreatDoor
