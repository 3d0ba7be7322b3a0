import Derived.Test.YtafickhhdemjnaaGreatDoorEg4
import Derived.Test.YtafickhhdemjnaaGreatDoorEg3
import Derived.Deep.RegionHeld3
import Derived.Deep.CutBlock
namespace Go.Proofs.YtafickhhdemjnaaGreatDoor
open Go.RowKit
set_option linter.unusedVariables false
set_option maxRecDepth 100000

/-- What an entry does to a state: done now, or let by. -/
inductive ApS (op : Nat) (T : Sheets) (S : St) (ps : List Pl) (i : Nat) (p : Pl) (q k : Int) (nm tx : ByteArray) (n m : Int) : Sheets → St → List Pl → Int → Int → List ByteArray → Bool → Prop
  | same (h : p.n = q) : ApS op T S ps i p q k nm tx n m T S ps p.c p.k p.l false
  | old (h : q < p.n) : ApS op T S ps i p q k nm tx n m T S ps 0 0 [] false
  | new (h : p.n < q) {S' : St} {c x j : Int} {items : List ByteArray} (s' : Value) (hD : Deed S nm tx n m k S' c x items j) : ApS op T S ps i p q k nm tx n m (putS 16 (putJ T S' j (op + 1)) (8 + (i : Int)) ((op + 1 : Nat) : Int) (rowB q ((op + 1 : Nat) : Int) c x items)) S' (ps.set i ⟨true, q, ((op + 1 : Nat) : Int), c, x, s', items⟩) c x items true
theorem engV_op (op g Sh Rl kop kg ev : Nat) : (engV op g Sh Rl kop kg ev).set 0 (.int .i64 ((op : Int) + 1)) = engV (op + 1) g Sh Rl kop kg ev := rfl
set_option maxRecDepth 1000000 in
set_option maxHeartbeats 6400000 in
theorem applyS_any {N X g Sh Rl op kop kg ev i : Nat} {tp : List Nat} {tN : Nodes} {P : Pool} {T : Sheets} {S : St} {ps : List Pl} {p : Pl} {k q : Int} {nm tx : ByteArray} {n m : Int} {cs : List Comp} {w0 w : World}
    (hin : inC w0 ∈ cs) (hT0 : Tab w0) (hS : OkS N S) (hN : N < 1152921504606846976) (hB : Bk P 16 16 tp tN T) (h8 : ps.length = 8) (hi : i < 8) (hp : ps[i]? = some p) (hpo : p.ok) (hpa : p.a ≤ op) (hq : 1 ≤ q ∧ q ≤ 1099511627776) (ho : op < 1099511627776) (hk : chkA k nm.size tx.size n m = 0)
    (A : All (blkC X (engV op g Sh Rl kop kg ev) 92 :: poolC P :: blkC g (bookL 16 16 tp) 180 :: (shL Sh S ++ (rollL Rl ps ++ cs))) w) :
    Calls Tryz.prog 53 #[.pointer (some ⟨X, 0, none⟩), entV i q k nm tx n m] w fun e w' => ∃ T' S' ps' c x items fr so sc P' tp' tN', e = .returned (.tuple #[resV c x (.slice so (List.length items) sc), .bool fr]) ∧ ApS op T S ps i p q k nm tx n m T' S' ps' c x items fr ∧ Bk P' 16 16 tp' tN' T' ∧ (∀ y ∈ P, y ∈ P') ∧
      All (ownC 9 (.slice so items.length sc) (txtV items) :: blkC X (engV (op + 1) g Sh Rl kop kg ev) 92 :: poolC P' :: blkC g (bookL 16 16 tp') 180 :: (shL Sh S' ++ (rollL Rl ps' ++ cs))) w' := by
  obtain ⟨E, hE⟩ : ∃ E, Hid (E = w.heap.size) := ⟨_, hid rfl⟩
  have A1 := hid ((A.addBlk [.int .i64 (i : Int), .int .i64 q, .int .i64 k, .string nm, .string tx, .int .i64 n, .int .i64 m] 36).addBlk [.int .i64 0, .int .i64 0, .slice none 0 0] 56)
  have sz : ∀ (V : World) (o : Obj), (V.alloc o).heap.size = V.heap.size + 1 := fun V o => by simp
  rw [sz, ← hE.out] at A1
  clear A
  unfold entV
  go_enter Tryz.func53, Tryz.ntmps53
  go_upto_region 1 with fail
  simp only [← hE.out]
  generalize (w.alloc (.cells #[.int .i64 (i : Int), .int .i64 q, .int .i64 k, .string nm, .string tx, .int .i64 n, .int .i64 m] 36)).alloc (.cells #[.int .i64 0, .int .i64 0, .slice none 0 0] 56) = w1 at *
  clear sz
  obtain ⟨R, hR⟩ : ∃ R, Hid (R = E + 1) := ⟨_, hid rfl⟩
  rw [← hR.out] at A1
  simp only [← hR.out]
  clear hR hE
  have x0 := cell_in (P := X) (o := 0) (C := engV op g Sh Rl kop kg ev) (t := 92) A1.out (by simp) rfl
  have f0 := free_in (P := X) (C := engV op g Sh Rl kop kg ev) (t := 92) A1.out (by simp) 0
  have lX : X < w1.heap.size := lt_in A1.out (C := engV op g Sh Rl kop kg ev) (t := 92) (by simp)
  have A2 : Hid (All (blkC X (engV (op + 1) g Sh Rl kop kg ev) 92 :: blkC R [.int .i64 0, .int .i64 0, .slice none 0 0] 56 :: blkC E [.int .i64 (i : Int), .int .i64 q, .int .i64 k, .string nm, .string tx, .int .i64 n, .int .i64 m] 36 :: poolC P :: blkC g (bookL 16 16 tp) 180 :: (shL Sh S ++ (rollL Rl ps ++ cs))) (w1.setCell ⟨X, 0, none⟩ (.int .i64 ((op : Int) + 1)))) := hid (by
    have h := (A1.out.perm (((List.Perm.swap _ _ _).cons _).trans (List.Perm.swap _ _ _))).setBlk 0 (.int .i64 ((op : Int) + 1))
    rw [engV_op] at h
    exact h)
  clear A1
  go_upto_region 2 with fail
  generalize w1.setCell ⟨X, 0, none⟩ (.int .i64 ((op : Int) + 1)) = w2 at *
  clear x0 f0 lX
  obtain ⟨XC, hXC⟩ : ∃ XC, Hid (XC = engV (op + 1) g Sh Rl kop kg ev) := ⟨_, hid rfl⟩
  rw [← hXC.out] at A2
  have X0 : Hid (XC[3]? = some (.pointer (some ⟨Rl, 0, none⟩))) := hid (by rw [hXC.out]; rfl)
  have x3 := cell_in (P := X) (o := 3) (C := XC) (t := 92) A2.out (by simp) X0.out
  have e0 := cell_in (P := E) (o := 0) (C := [.int .i64 (i : Int), .int .i64 q, .int .i64 k, .string nm, .string tx, .int .i64 n, .int .i64 m]) (t := 36) A2.out (by simp) rfl
  have lX : X < w2.heap.size := lt_in A2.out (C := XC) (t := 92) (by simp)
  have lE : E < w2.heap.size := lt_in A2.out (C := [.int .i64 (i : Int), .int .i64 q, .int .i64 k, .string nm, .string tx, .int .i64 n, .int .i64 m]) (t := 36) (by simp)
  have PM : Hid (∀ (W : World) (b : List Comp), All (b ++ ([blkC X XC 92, blkC R [.int .i64 0, .int .i64 0, .slice none 0 0] 56, blkC E [.int .i64 (i : Int), .int .i64 q, .int .i64 k, .string nm, .string tx, .int .i64 n, .int .i64 m] 36, poolC P, blkC g (bookL 16 16 tp) 180] ++ (shL Sh S ++ (rollL Rl ps ++ cs)))) W → All (rollL Rl ps ++ (b ++ ([blkC X XC 92, blkC R [.int .i64 0, .int .i64 0, .slice none 0 0] 56, blkC E [.int .i64 (i : Int), .int .i64 q, .int .i64 k, .string nm, .string tx, .int .i64 n, .int .i64 m] 36, poolC P, blkC g (bookL 16 16 tp) 180] ++ (shL Sh S ++ cs)))) W) := hid (fun W b h => by
    refine h.perm ?_
    have := perm_by 5 [b, [blkC X XC 92, blkC R [.int .i64 0, .int .i64 0, .slice none 0 0] 56, blkC E [.int .i64 (i : Int), .int .i64 q, .int .i64 k, .string nm, .string tx, .int .i64 n, .int .i64 m] 36, poolC P, blkC g (bookL 16 16 tp) 180], shL Sh S, rollL Rl ps, cs] [3, 0, 1, 2, 4] rfl (by decide)
    simpa [List.getD] using this)
  have PN : Hid (∀ (W : World) (a b : Comp), All (a :: (rollL Rl ps ++ (b :: ([blkC X XC 92, blkC R [.int .i64 0, .int .i64 0, .slice none 0 0] 56, blkC E [.int .i64 (i : Int), .int .i64 q, .int .i64 k, .string nm, .string tx, .int .i64 n, .int .i64 m] 36, poolC P, blkC g (bookL 16 16 tp) 180] ++ (shL Sh S ++ cs))))) W → All (b :: a :: ([blkC X XC 92, blkC R [.int .i64 0, .int .i64 0, .slice none 0 0] 56, blkC E [.int .i64 (i : Int), .int .i64 q, .int .i64 k, .string nm, .string tx, .int .i64 n, .int .i64 m] 36, poolC P, blkC g (bookL 16 16 tp) 180] ++ (shL Sh S ++ (rollL Rl ps ++ cs)))) W) := hid (fun W a b h => by
    refine h.perm ?_
    have := perm_by 6 [[a], rollL Rl ps, [b], [blkC X XC 92, blkC R [.int .i64 0, .int .i64 0, .slice none 0 0] 56, blkC E [.int .i64 (i : Int), .int .i64 q, .int .i64 k, .string nm, .string tx, .int .i64 n, .int .i64 m] 36, poolC P, blkC g (bookL 16 16 tp) 180], shL Sh S, cs] [2, 0, 3, 4, 1, 5] rfl (by decide)
    simpa [List.getD] using this)
  have PO : Hid (∀ (W : World) (a : Comp), All (a :: (rollL Rl ps ++ ([blkC X XC 92, blkC R [.int .i64 0, .int .i64 0, .slice none 0 0] 56, blkC E [.int .i64 (i : Int), .int .i64 q, .int .i64 k, .string nm, .string tx, .int .i64 n, .int .i64 m] 36, poolC P, blkC g (bookL 16 16 tp) 180] ++ (shL Sh S ++ cs)))) W → All (a :: ([blkC X XC 92, blkC R [.int .i64 0, .int .i64 0, .slice none 0 0] 56, blkC E [.int .i64 (i : Int), .int .i64 q, .int .i64 k, .string nm, .string tx, .int .i64 n, .int .i64 m] 36, poolC P, blkC g (bookL 16 16 tp) 180] ++ (shL Sh S ++ (rollL Rl ps ++ cs)))) W) := hid (fun W a h => by
    refine h.perm ?_
    have := perm_by 5 [[a], rollL Rl ps, [blkC X XC 92, blkC R [.int .i64 0, .int .i64 0, .slice none 0 0] 56, blkC E [.int .i64 (i : Int), .int .i64 q, .int .i64 k, .string nm, .string tx, .int .i64 n, .int .i64 m] 36, poolC P, blkC g (bookL 16 16 tp) 180], shL Sh S, cs] [0, 2, 3, 1, 4] rfl (by decide)
    simpa [List.getD] using this)
  have DA : Hid (Calls Tryz.prog 51 #[.pointer (some ⟨Rl, 0, none⟩), .int .i64 (i : Int)] w2.drew fun e w' => ∃ ao c', e = .returned (.tuple #[rowV p.n p.a p.c p.k (.slice ao p.l.length c'), .bool p.on]) ∧ Hid (All (ownC 9 (.slice ao p.l.length c') (cellsT p.l) :: ([blkC X XC 92, blkC R [.int .i64 0, .int .i64 0, .slice none 0 0] 56, blkC E [.int .i64 (i : Int), .int .i64 q, .int .i64 k, .string nm, .string tx, .int .i64 n, .int .i64 m] 36, poolC P, blkC g (bookL 16 16 tp) 180] ++ (shL Sh S ++ (rollL Rl ps ++ cs)))) w')) := hid (by
    refine (Last_row (PM.out _ [] A2.out.drew) hp hi hpo).mono ?_
    rintro e w' ⟨ao, c', rfl, h⟩
    exact ⟨ao, c', rfl, hid (PO.out _ _ h)⟩)
  have DB : Hid (Calls Tryz.prog 51 #[.pointer (some ⟨Rl, 0, none⟩), .int .i64 (i : Int)] (w2.alloc (.cells #[.int .i64 0, .int .i64 0, .int .i64 0, .int .i64 0, .slice none 0 0] 60)).drew fun e w' => ∃ ao c', e = .returned (.tuple #[rowV p.n p.a p.c p.k (.slice ao p.l.length c'), .bool p.on]) ∧ Hid (All (blkC w2.heap.size [.int .i64 0, .int .i64 0, .int .i64 0, .int .i64 0, .slice none 0 0] 60 :: ownC 9 (.slice ao p.l.length c') (cellsT p.l) :: ([blkC X XC 92, blkC R [.int .i64 0, .int .i64 0, .slice none 0 0] 56, blkC E [.int .i64 (i : Int), .int .i64 q, .int .i64 k, .string nm, .string tx, .int .i64 n, .int .i64 m] 36, poolC P, blkC g (bookL 16 16 tp) 180] ++ (shL Sh S ++ (rollL Rl ps ++ cs)))) w') ∧ w'.cell? ⟨w2.heap.size, 0, none⟩ = some (.int .i64 0) ∧ w'.cell? ⟨w2.heap.size, 1, none⟩ = some (.int .i64 0) ∧ w'.cell? ⟨w2.heap.size, 2, none⟩ = some (.int .i64 0) ∧ w'.cell? ⟨w2.heap.size, 3, none⟩ = some (.int .i64 0) ∧ w'.cell? ⟨w2.heap.size, 4, none⟩ = some (.slice none 0 0) ∧ w'.frozen? ⟨w2.heap.size, 0, none⟩ = false ∧ w'.frozen? ⟨w2.heap.size, 1, none⟩ = false ∧ w'.frozen? ⟨w2.heap.size, 2, none⟩ = false ∧ w'.frozen? ⟨w2.heap.size, 3, none⟩ = false ∧ w'.frozen? ⟨w2.heap.size, 4, none⟩ = false ∧ w2.heap.size < w'.heap.size) := hid (by
    refine (Last_row (PM.out _ [blkC w2.heap.size [.int .i64 0, .int .i64 0, .int .i64 0, .int .i64 0, .slice none 0 0] 60] (A2.out.addBlk [.int .i64 0, .int .i64 0, .int .i64 0, .int .i64 0, .slice none 0 0] 60).drew) hp hi hpo).mono ?_
    rintro e w' ⟨ao, c', rfl, h⟩
    have h2 := PN.out _ _ _ h
    exact ⟨ao, c', rfl, hid h2, cell_in h2 List.mem_cons_self rfl, cell_in h2 List.mem_cons_self rfl, cell_in h2 List.mem_cons_self rfl, cell_in h2 List.mem_cons_self rfl, cell_in h2 List.mem_cons_self rfl, free_in h2 List.mem_cons_self 0, free_in h2 List.mem_cons_self 1, free_in h2 List.mem_cons_self 2, free_in h2 List.mem_cons_self 3, free_in h2 List.mem_cons_self 4, lt_in h2 List.mem_cons_self⟩)
  clear PM PN PO X0
  go_cut [6, 7] from 17 to 26 (fun lv kv wx => ∃ wy, wy = wx ∧ ∃ (b : Nat) (ao : Option Addr) (c' : Nat), lv = .pointer (some ⟨b, 0, none⟩) ∧ kv = .bool p.on ∧ Hid (All (blkC b [.int .i64 p.n, .int .i64 p.a, .int .i64 p.c, .int .i64 p.k, .slice ao p.l.length c'] 60 :: ownC 9 (.slice ao p.l.length c') (cellsT p.l) :: ([blkC X XC 92, blkC R [.int .i64 0, .int .i64 0, .slice none 0 0] 56, blkC E [.int .i64 (i : Int), .int .i64 q, .int .i64 k, .string nm, .string tx, .int .i64 n, .int .i64 m] 36, poolC P, blkC g (bookL 16 16 tp) 180] ++ (shL Sh S ++ (rollL Rl ps ++ cs)))) wx))
  case first =>
    clear A2
    go_region_law (go_simp; first | (go_at_call 51; refine DA.out.mono ?_; rintro e w3 ⟨ao, c', rfl, HA⟩) | (go_at_call 51; refine DB.out.mono ?_; rintro e w3 ⟨ao, c', rfl, HA, q0, q1, q2, q3, q4, f0, f1, f2, f3, f4, lq⟩))
    all_goals (go_wp2_with fail; go_meet)
    all_goals first
      | exact ⟨_, rfl, _, ao, c', rfl, rfl, hid (HA.out.addBlk [.int .i64 p.n, .int .i64 p.a, .int .i64 p.c, .int .i64 p.k, .slice ao p.l.length c'] 60)⟩
      | exact ⟨_, rfl, _, ao, c', rfl, rfl, hid (((((HA.out.setBlk 0 (.int .i64 p.n)).setBlk 1 (.int .i64 p.a)).setBlk 2 (.int .i64 p.c)).setBlk 3 (.int .i64 p.k)).setBlk 4 (.slice ao p.l.length c'))⟩
      | exact ⟨_, rfl, _, ao, c', rfl, rfl, hid (((((HA.out.setBlk 0 (.int .i64 p.n)).setBlk 1 (.int .i64 p.a)).setBlk 2 (.int .i64 p.c)).setBlk 3 (.int .i64 p.k)).setBlk 4 (.slice ao p.l.length c')).drew⟩
  case rest =>
  obtain ⟨wx, rfl, b, ao, c', rfl, rfl, HA⟩ := hcut
  clear x3 e0 lX lE DA DB A2
  have b0 := cell_in (o := 0) HA.out List.mem_cons_self rfl
  have b2 := cell_in (o := 2) HA.out List.mem_cons_self rfl
  have b3 := cell_in (o := 3) HA.out List.mem_cons_self rfl
  have b4 := cell_in (o := 4) HA.out List.mem_cons_self rfl
  have eb : ∀ o v, ([.int .i64 (i : Int), .int .i64 q, .int .i64 k, .string nm, .string tx, .int .i64 n, .int .i64 m] : List Value)[o]? = some v → wx.cell? ⟨E, o, none⟩ = some v := fun o v h => cell_in (P := E) (t := 36) HA.out (by simp) h
  have e1 := eb 1 _ rfl
  have AR : Hid (All (blkC R [.int .i64 0, .int .i64 0, .slice none 0 0] 56 :: ownC 9 (.slice ao p.l.length c') (cellsT p.l) :: blkC X XC 92 :: poolC P :: blkC g (bookL 16 16 tp) 180 :: (shL Sh S ++ (rollL Rl ps ++ (blkC b [.int .i64 p.n, .int .i64 p.a, .int .i64 p.c, .int .i64 p.k, .slice ao p.l.length c'] 60 :: blkC E [.int .i64 (i : Int), .int .i64 q, .int .i64 k, .string nm, .string tx, .int .i64 n, .int .i64 m] 36 :: cs)))) wx) := hid (by
    refine HA.out.perm ?_
    have := perm_by 9 [[blkC b [.int .i64 p.n, .int .i64 p.a, .int .i64 p.c, .int .i64 p.k, .slice ao p.l.length c'] 60], [ownC 9 (.slice ao p.l.length c') (cellsT p.l)], [blkC X XC 92], [blkC R [.int .i64 0, .int .i64 0, .slice none 0 0] 56], [blkC E [.int .i64 (i : Int), .int .i64 q, .int .i64 k, .string nm, .string tx, .int .i64 n, .int .i64 m] 36], [poolC P, blkC g (bookL 16 16 tp) 180], shL Sh S, rollL Rl ps, cs] [3, 1, 2, 5, 6, 7, 0, 4, 8] rfl (by decide)
    simpa [List.getD] using this)
  have r0 := cell_in (o := 0) AR.out List.mem_cons_self rfl
  have r1 := cell_in (o := 1) AR.out List.mem_cons_self rfl
  have r2 := cell_in (o := 2) AR.out List.mem_cons_self rfl
  have f0 := free_in AR.out List.mem_cons_self 0
  have f1 := free_in AR.out List.mem_cons_self 1
  have f2 := free_in AR.out List.mem_cons_self 2
  have DROP : Hid (∀ (W : World) (o : Comp) (P' : Pool) (tp' : List Nat) (S' : St) (ps' : List Pl), All (o :: blkC X XC 92 :: poolC P' :: blkC g (bookL 16 16 tp') 180 :: (shL Sh S' ++ (rollL Rl ps' ++ (blkC b [.int .i64 p.n, .int .i64 p.a, .int .i64 p.c, .int .i64 p.k, .slice ao p.l.length c'] 60 :: blkC E [.int .i64 (i : Int), .int .i64 q, .int .i64 k, .string nm, .string tx, .int .i64 n, .int .i64 m] 36 :: cs)))) W → All (o :: blkC X XC 92 :: poolC P' :: blkC g (bookL 16 16 tp') 180 :: (shL Sh S' ++ (rollL Rl ps' ++ cs))) W) := hid (fun W o P' tp' S' ps' h => by
    have h2 := perm_by 5 [[o, blkC X XC 92, poolC P', blkC g (bookL 16 16 tp') 180], shL Sh S', rollL Rl ps', [blkC b [.int .i64 p.n, .int .i64 p.a, .int .i64 p.c, .int .i64 p.k, .slice ao p.l.length c'] 60, blkC E [.int .i64 (i : Int), .int .i64 q, .int .i64 k, .string nm, .string tx, .int .i64 n, .int .i64 m] 36], cs] [3, 0, 1, 2, 4] rfl (by decide)
    exact (h.perm (by simpa [List.getD] using h2)).tail.tail)
  have HB := hid hB
  by_cases hs : p.n = q
  · have d1 : (p.n == q) = true := by simpa using hs
    have AP := hid (ApS.same (op := op) (T := T) (S := S) (ps := ps) (i := i) (k := k) (nm := nm) (tx := tx) (n := n) (m := m) hs)
    have FIN : Hid (All (blkC R [.int .i64 p.c, .int .i64 p.k, .slice ao p.l.length c'] 56 :: ownC 9 (.slice ao p.l.length c') (cellsT p.l) :: blkC X XC 92 :: poolC P :: blkC g (bookL 16 16 tp) 180 :: (shL Sh S ++ (rollL Rl ps ++ (blkC b [.int .i64 p.n, .int .i64 p.a, .int .i64 p.c, .int .i64 p.k, .slice ao p.l.length c'] 60 :: blkC E [.int .i64 (i : Int), .int .i64 q, .int .i64 k, .string nm, .string tx, .int .i64 n, .int .i64 m] 36 :: cs)))) (((wx.setCell ⟨R, 0, none⟩ (.int .i64 p.c)).setCell ⟨R, 1, none⟩ (.int .i64 p.k)).setCell ⟨R, 2, none⟩ (.slice ao p.l.length c'))) := hid (((AR.out.setBlk 0 (.int .i64 p.c)).setBlk 1 (.int .i64 p.k)).setBlk 2 (.slice ao p.l.length c'))
    clear hs eb HA AR hB
    go_wp2_with fail
    generalize (((wx.setCell ⟨R, 0, none⟩ (.int .i64 p.c)).setCell ⟨R, 1, none⟩ (.int .i64 p.k)).setCell ⟨R, 2, none⟩ (.slice ao p.l.length c')) = w8 at *
    clear r0 r1 r2
    have r0 := cell_in (o := 0) FIN.out List.mem_cons_self rfl
    have r1 := cell_in (o := 1) FIN.out List.mem_cons_self rfl
    have r2 := cell_in (o := 2) FIN.out List.mem_cons_self rfl
    refine bodyPost_ret (v := .tuple #[resV p.c p.k (.slice ao p.l.length c'), .bool false]) (by simp only [results, Tryz.f53]; go_simp) rfl ?_
    have h9 := DROP.out _ _ _ _ _ _ FIN.out.tail
    rw [hXC.out] at h9
    exact ⟨T, S, ps, p.c, p.k, p.l, false, ao, c', P, tp, tN, rfl, AP.out, HB.out, fun _ h => h, h9⟩
  · have d1 : (p.n == q) = false := by simpa using hs
    by_cases hg : q < p.n
    · have d2 : decide (p.n > q) = true := by simpa using hg
      have d3 : decide (q < p.n) = true := by simpa using hg
      have AP := hid (ApS.old (op := op) (T := T) (S := S) (ps := ps) (i := i) (k := k) (nm := nm) (tx := tx) (n := n) (m := m) hg)
      have FIN : Hid (All (blkC R [.int .i64 0, .int .i64 0, .slice none 0 0] 56 :: ownC 9 (.slice ao p.l.length c') (cellsT p.l) :: blkC X XC 92 :: poolC P :: blkC g (bookL 16 16 tp) 180 :: (shL Sh S ++ (rollL Rl ps ++ (blkC b [.int .i64 p.n, .int .i64 p.a, .int .i64 p.c, .int .i64 p.k, .slice ao p.l.length c'] 60 :: blkC E [.int .i64 (i : Int), .int .i64 q, .int .i64 k, .string nm, .string tx, .int .i64 n, .int .i64 m] 36 :: cs)))) (((wx.setCell ⟨R, 0, none⟩ (.int .i64 0)).setCell ⟨R, 1, none⟩ (.int .i64 0)).setCell ⟨R, 2, none⟩ (.slice none 0 0))) := hid (((AR.out.setBlk 0 (.int .i64 0)).setBlk 1 (.int .i64 0)).setBlk 2 (.slice none 0 0))
      clear hs hg eb HA AR hB
      go_wp2_with fail
      generalize (((wx.setCell ⟨R, 0, none⟩ (.int .i64 0)).setCell ⟨R, 1, none⟩ (.int .i64 0)).setCell ⟨R, 2, none⟩ (.slice none 0 0)) = w8 at *
      clear r0 r1 r2
      have r0 := cell_in (o := 0) FIN.out List.mem_cons_self rfl
      have r1 := cell_in (o := 1) FIN.out List.mem_cons_self rfl
      have r2 := cell_in (o := 2) FIN.out List.mem_cons_self rfl
      refine bodyPost_ret (v := .tuple #[resV 0 0 (.slice none 0 0), .bool false]) (by simp only [results, Tryz.f53]; go_simp) rfl ?_
      have h9 := DROP.out _ _ _ _ _ _ FIN.out.tail
      rw [hXC.out] at h9
      exact ⟨T, S, ps, 0, 0, [], false, none, 0, P, tp, tN, rfl, AP.out, HB.out, fun _ h => h, All.addNil (e := 9) h9.tail⟩
    · have d2 : decide (p.n > q) = false := by simpa using hg
      have d3 : decide (q < p.n) = false := by simpa using hg
      have hlt : p.n < q := by omega
      have e0 := eb 0 _ rfl
      have e2 := eb 2 _ rfl
      have e3 := eb 3 _ rfl
      have e4 := eb 4 _ rfl
      have e5 := eb 5 _ rfl
      have e6 := eb 6 _ rfl
      have C85 : Hid (Calls Tryz.prog 85 #[.pointer (some ⟨X, 0, none⟩), .agg #[.int .i64 (i : Int), .int .i64 q, .int .i64 k, .string nm, .string tx, .int .i64 n, .int .i64 m]] wx fun e w' => ∃ S' c x items j so sc s' P' tp' tN', e = .returned (resV c x (.slice so (List.length items) sc)) ∧ Hid (Deed S nm tx n m k S' c x items j) ∧ Hid (Bk P' 16 16 tp' tN' (putS 16 (putJ T S' j (op + 1)) (8 + (i : Int)) ((op + 1 : Nat) : Int) (rowB q ((op + 1 : Nat) : Int) c x items))) ∧ Hid (∀ y ∈ P, y ∈ P') ∧ Hid (All (blkC R [.int .i64 0, .int .i64 0, .slice none 0 0] 56 :: ownC 9 (.slice so items.length sc) (txtV items) :: blkC X XC 92 :: poolC P' :: blkC g (bookL 16 16 tp') 180 :: (shL Sh S' ++ (rollL Rl (ps.set i ⟨true, q, ((op + 1 : Nat) : Int), c, x, s', items⟩) ++ (blkC b [.int .i64 p.n, .int .i64 p.a, .int .i64 p.c, .int .i64 p.k, .slice ao p.l.length c'] 60 :: blkC E [.int .i64 (i : Int), .int .i64 q, .int .i64 k, .string nm, .string tx, .int .i64 n, .int .i64 m] 36 :: cs)))) w')) := hid (by
        have h1 : All (blkC X (engV (op + 1) g Sh Rl kop kg ev) 92 :: poolC P :: blkC g (bookL 16 16 tp) 180 :: (shL Sh S ++ (rollL Rl ps ++ (blkC R [.int .i64 0, .int .i64 0, .slice none 0 0] 56 :: blkC b [.int .i64 p.n, .int .i64 p.a, .int .i64 p.c, .int .i64 p.k, .slice ao p.l.length c'] 60 :: blkC E [.int .i64 (i : Int), .int .i64 q, .int .i64 k, .string nm, .string tx, .int .i64 n, .int .i64 m] 36 :: cs)))) wx := by
          rw [← hXC.out]
          have h2 := AR.out.perm (List.Perm.swap _ _ _)
          refine h2.tail.perm ?_
          have := perm_by 5 [[blkC R [.int .i64 0, .int .i64 0, .slice none 0 0] 56], [blkC X XC 92, poolC P, blkC g (bookL 16 16 tp) 180], shL Sh S, rollL Rl ps, blkC b [.int .i64 p.n, .int .i64 p.a, .int .i64 p.c, .int .i64 p.k, .slice ao p.l.length c'] 60 :: blkC E [.int .i64 (i : Int), .int .i64 q, .int .i64 k, .string nm, .string tx, .int .i64 n, .int .i64 m] 36 :: cs] [1, 2, 3, 0, 4] rfl (by decide)
          simpa [List.getD] using this
        refine (doS_any (q := q) (by simp [hin]) hT0 hS hN HB.out h8 hi hp hq ⟨by omega, by omega⟩ hk (fun _ => ⟨hlt, by omega⟩) h1).mono ?_
        rintro e w' ⟨S', c, x, items, j, so, sc, s', P', tp', tN', rfl, hD, hB', hsub, hA⟩
        refine ⟨S', c, x, items, j, so, sc, s', P', tp', tN', rfl, hid hD, hid hB', hid hsub, hid ?_⟩
        rw [← hXC.out] at hA
        refine hA.perm ?_
        have := perm_by 5 [[ownC 9 (.slice so items.length sc) (txtV items), blkC X XC 92, poolC P', blkC g (bookL 16 16 tp') 180], shL Sh S', rollL Rl (ps.set i ⟨true, q, ((op + 1 : Nat) : Int), c, x, s', items⟩), [blkC R [.int .i64 0, .int .i64 0, .slice none 0 0] 56], blkC b [.int .i64 p.n, .int .i64 p.a, .int .i64 p.c, .int .i64 p.k, .slice ao p.l.length c'] 60 :: blkC E [.int .i64 (i : Int), .int .i64 q, .int .i64 k, .string nm, .string tx, .int .i64 n, .int .i64 m] 36 :: cs] [3, 0, 1, 2, 4] rfl (by decide)
        simpa [List.getD] using this)
      have HLT := hid hlt
      clear hs hg eb HA AR hB hlt
      go_upto_region 7 with fail
      go_upto_region 7 with fail
      go_wp2_with (go_at_call 85; refine C85.out.mono ?_; rintro e wy ⟨S', c, x, items, j, so, sc, s', P', tp', tN', rfl, HD, HB2, HS2, A9⟩; clear r0 r1 r2 f0 f1 f2; have r0 := cell_in (o := 0) A9.out List.mem_cons_self rfl; have r1 := cell_in (o := 1) A9.out List.mem_cons_self rfl; have r2 := cell_in (o := 2) A9.out List.mem_cons_self rfl; have f0 := free_in A9.out List.mem_cons_self 0; have f1 := free_in A9.out List.mem_cons_self 1; have f2 := free_in A9.out List.mem_cons_self 2)
      have FIN : Hid (All (blkC R [.int .i64 c, .int .i64 x, .slice so items.length sc] 56 :: ownC 9 (.slice so items.length sc) (txtV items) :: blkC X XC 92 :: poolC P' :: blkC g (bookL 16 16 tp') 180 :: (shL Sh S' ++ (rollL Rl (ps.set i ⟨true, q, ((op + 1 : Nat) : Int), c, x, s', items⟩) ++ (blkC b [.int .i64 p.n, .int .i64 p.a, .int .i64 p.c, .int .i64 p.k, .slice ao p.l.length c'] 60 :: blkC E [.int .i64 (i : Int), .int .i64 q, .int .i64 k, .string nm, .string tx, .int .i64 n, .int .i64 m] 36 :: cs)))) (((wy.setCell ⟨R, 0, none⟩ (.int .i64 c)).setCell ⟨R, 1, none⟩ (.int .i64 x)).setCell ⟨R, 2, none⟩ (.slice so items.length sc))) := hid (((A9.out.setBlk 0 (.int .i64 c)).setBlk 1 (.int .i64 x)).setBlk 2 (.slice so items.length sc))
      generalize (((wy.setCell ⟨R, 0, none⟩ (.int .i64 c)).setCell ⟨R, 1, none⟩ (.int .i64 x)).setCell ⟨R, 2, none⟩ (.slice so items.length sc)) = w8 at *
      clear r0 r1 r2
      have r0 := cell_in (o := 0) FIN.out List.mem_cons_self rfl
      have r1 := cell_in (o := 1) FIN.out List.mem_cons_self rfl
      have r2 := cell_in (o := 2) FIN.out List.mem_cons_self rfl
      refine bodyPost_ret (v := .tuple #[resV c x (.slice so items.length sc), .bool true]) (by simp only [results, Tryz.f53]; go_simp) rfl ?_
      have h9 := DROP.out _ _ _ _ _ _ FIN.out.tail
      rw [hXC.out] at h9
      exact ⟨_, S', _, c, x, items, true, so, sc, P', tp', tN', rfl, ApS.new HLT.out s' HD.out, HB2.out, HS2.out, h9⟩
end Go.Proofs.YtafickhhdemjnaaGreatDoor

namespace Go.Proofs.YtafickhhdemjnaaGreatDoor
open Go.RowKit
set_option linter.unusedVariables false
set_option maxRecDepth 100000

set_option maxRecDepth 1000000 in
set_option maxHeartbeats 1600000 in
theorem pinned_any {X o g op : Nat} {XC : List Value} {t : TypeId} {tp : List Nat} {tN : Nodes} {P : Pool} {T : Sheets} {cs : List Comp} {w : World} (hB : Bk P 16 16 tp tN T) (hX : blkC X XC t ∈ cs) (h0 : XC[o]? = some (.int .i64 (op : Int))) (h1 : XC[o + 1]? = some (.pointer (some ⟨g, 0, none⟩)))
    (A : All (poolC P :: blkC g (bookL 16 16 tp) 180 :: cs) w) :
    Calls Tryz.prog 59 #[.pointer (some ⟨X, o, none⟩)] w fun e w' => ∃ g2, e = .returned (.agg #[.int .i64 (op : Int), .pointer (some ⟨g2, 0, none⟩)]) ∧ All (poolC P :: blkC g (bookL 16 16 tp) 180 :: blkC g2 (bookL 16 16 tp) 180 :: cs) w' := by
  have A1 := hid (A.addBlk [.int .i64 0, .pointer none] 84)
  obtain ⟨R, hR⟩ : ∃ R, Hid (R = w.heap.size) := ⟨_, hid rfl⟩
  rw [← hR.out] at A1
  clear A
  go_enter Tryz.func59, Tryz.ntmps59
  go_upto_region 1 with fail
  simp only [← hR.out]
  generalize w.alloc (.cells #[.int .i64 0, .pointer none] 84) = w1 at *
  clear hR
  have XS : Hid (∀ (cs' : List Comp) (W : World), All cs' W → blkC X XC t ∈ cs' → W.cell? ⟨X, o, none⟩ = some (.int .i64 (op : Int)) ∧ W.cell? ⟨X, o + 1, none⟩ = some (.pointer (some ⟨g, 0, none⟩))) := hid (fun cs' W h hm => ⟨cell_in h hm h0, cell_in h hm h1⟩)
  have q0 := hid (XS.out _ w1 A1.out (by simp [hX]))
  have C90 : Hid (Calls Tryz.prog 90 #[.pointer (some ⟨g, 0, none⟩)] w1.drew fun e w' => ∃ g2, e = .returned (.pointer (some ⟨g2, 0, none⟩)) ∧ Hid (All (poolC P :: blkC g (bookL 16 16 tp) 180 :: blkC g2 (bookL 16 16 tp) 180 :: blkC R [.int .i64 0, .pointer none] 84 :: cs) w')) := hid (by
    have h2 : All (poolC P :: blkC g (bookL 16 16 tp) 180 :: blkC R [.int .i64 0, .pointer none] 84 :: cs) w1.drew := (A1.out.perm ((List.Perm.swap _ _ _).trans ((List.Perm.swap _ _ _).cons _))).drew
    refine (Snap_all h2 hB).mono ?_
    rintro e w' ⟨g2, rfl, h⟩
    exact ⟨g2, rfl, hid h⟩)
  have HX := hid hX
  clear hB hX h0 h1 A1
  go_region_held3 (fun W => W.cell? ⟨X, o, none⟩ = some (.int .i64 (op : Int)) ∧ W.cell? ⟨X, o + 1, none⟩ = some (.pointer (some ⟨g, 0, none⟩))) (first | exact q0.out | exact q1.out | exact q2.out)
    (first
      | (go_at_call 90; refine C90.out.mono ?_; rintro e w2 ⟨g2, rfl, A2⟩; have q1 := hid (XS.out _ w2 A2.out (by simp [HX.out])); have AR : Hid (All (blkC R [.int .i64 0, .pointer none] 84 :: poolC P :: blkC g (bookL 16 16 tp) 180 :: blkC g2 (bookL 16 16 tp) 180 :: cs) w2) := hid (A2.out.perm (List.perm_middle (l₁ := [_, _, _]))); have r0 := cell_in (o := 0) AR.out List.mem_cons_self rfl; have r1 := cell_in (o := 1) AR.out List.mem_cons_self rfl; have f0 := free_in AR.out List.mem_cons_self 0; have f1 := free_in AR.out List.mem_cons_self 1; have lR : R < w2.heap.size := lt_in AR.out List.mem_cons_self; have FIN : Hid (All (blkC R [.int .i64 (op : Int), .pointer (some ⟨g2, 0, none⟩)] 84 :: poolC P :: blkC g (bookL 16 16 tp) 180 :: blkC g2 (bookL 16 16 tp) 180 :: cs) ((w2.setCell ⟨R, 0, none⟩ (.int .i64 (op : Int))).setCell ⟨R, 1, none⟩ (.pointer (some ⟨g2, 0, none⟩)))) := hid ((AR.out.setBlk 0 (.int .i64 (op : Int))).setBlk 1 (.pointer (some ⟨g2, 0, none⟩))); have q2 := hid (XS.out _ _ FIN.out (by simp [HX.out]))))
  clear q0 q1 q2 C90 A2 XS AR r0 r1 f0 f1
  go_wp2_with fail
  generalize (w2.setCell ⟨R, 0, none⟩ (.int .i64 (op : Int))).setCell ⟨R, 1, none⟩ (.pointer (some ⟨g2, 0, none⟩)) = w8 at *
  have r0 := cell_in (o := 0) FIN.out List.mem_cons_self rfl
  have r1 := cell_in (o := 1) FIN.out List.mem_cons_self rfl
  refine bodyPost_ret (v := .agg #[.int .i64 (op : Int), .pointer (some ⟨g2, 0, none⟩)]) (by simp only [results, Tryz.f59]; go_simp) rfl ?_
  exact ⟨g2, rfl, FIN.out.tail⟩
set_option maxRecDepth 1000000 in
set_option maxHeartbeats 1600000 in
/-- The checkpoint is made anew. -/
theorem keep_gen {X op g : Nat} {XC : List Value} {v4 v5 : Value} {tp : List Nat} {tN : Nodes} {P : Pool} {T : Sheets} {cs : List Comp} {w : World} (hB : Bk P 16 16 tp tN T) (h0 : XC[0]? = some (.int .i64 (op : Int))) (h1 : XC[1]? = some (.pointer (some ⟨g, 0, none⟩))) (h4 : XC[4]? = some v4) (h5 : XC[5]? = some v5)
    (A : All (blkC X XC 92 :: poolC P :: blkC g (bookL 16 16 tp) 180 :: cs) w) :
    Calls Tryz.prog 48 #[.pointer (some ⟨X, 0, none⟩)] w fun e w' => ∃ g2, e = .returned (.tuple #[]) ∧ All (blkC X ((XC.set 4 (.int .i64 (op : Int))).set 5 (.pointer (some ⟨g2, 0, none⟩))) 92 :: poolC P :: blkC g (bookL 16 16 tp) 180 :: blkC g2 (bookL 16 16 tp) 180 :: cs) w' := by
  have C59 := hid (pinned_any (X := X) (o := 0) (g := g) (op := op) (XC := XC) (t := 92) (cs := blkC X XC 92 :: cs) hB List.mem_cons_self h0 h1 (A.perm ((List.Perm.swap _ _ _).trans ((List.Perm.swap _ _ _).cons _))))
  have H4 := hid h4
  have H5 := hid h5
  clear A hB h0 h1 h4 h5
  go_enter Tryz.func48, Tryz.ntmps48
  go_wp2_with (go_at_call 59; refine C59.out.mono ?_; rintro e w2 ⟨g2, rfl, A2⟩; have AR : Hid (All (blkC X XC 92 :: poolC P :: blkC g (bookL 16 16 tp) 180 :: blkC g2 (bookL 16 16 tp) 180 :: cs) w2) := hid (A2.perm (List.perm_middle (l₁ := [_, _, _]))); clear A2; have r4 := cell_in (o := 4) AR.out List.mem_cons_self H4.out; have r5 := cell_in (o := 5) AR.out List.mem_cons_self H5.out; have f4 := free_in AR.out List.mem_cons_self 4; have f5 := free_in AR.out List.mem_cons_self 5; have lX : X < w2.heap.size := lt_in AR.out List.mem_cons_self)
  have FIN := (AR.out.setBlk 4 (.int .i64 (op : Int))).setBlk 5 (.pointer (some ⟨g2, 0, none⟩))
  go_end0
  exact ⟨g2, rfl, FIN⟩
theorem keep_any {X op g Sh Rl kop kg ev : Nat} {tp kp : List Nat} {tN : Nodes} {P : Pool} {T : Sheets} {cs : List Comp} {w : World} (hB : Bk P 16 16 tp tN T)
    (A : All (blkC X (engV op g Sh Rl kop kg ev) 92 :: poolC P :: blkC g (bookL 16 16 tp) 180 :: cs) w) :
    Calls Tryz.prog 48 #[.pointer (some ⟨X, 0, none⟩)] w fun e w' => ∃ g2, e = .returned (.tuple #[]) ∧ All (blkC X (engV op g Sh Rl op g2 ev) 92 :: poolC P :: blkC g (bookL 16 16 tp) 180 :: blkC g2 (bookL 16 16 tp) 180 :: cs) w' :=
  keep_gen hB rfl rfl rfl rfl A
end Go.Proofs.YtafickhhdemjnaaGreatDoor
