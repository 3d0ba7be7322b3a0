import Derived.Test.YtafickhhdemjnaaGreatDoorJ25
namespace Go.Proofs.YtafickhhdemjnaaGreatDoor
open Go.RowKit
set_option linter.unusedVariables false
set_option maxRecDepth 100000

/-- An engine's state. -/
structure EM where
  op : Nat
  kop : Nat
  ev : Nat
  T : Sheets
  K : Sheets
  S : St
  ps : List Pl
/-- Where it lies. -/
structure EX where
  g : Nat
  kg : Nat
  Sh : Nat
  Rl : Nat
  P : Pool
  tp : List Nat
  kp : List Nat
  tN : Nodes
  kN : Nodes
def EM.L (X : Nat) (e : EM) (a : EX) (cs : List Comp) : List Comp := blkC X (engV e.op a.g a.Sh a.Rl e.kop a.kg e.ev) 92 :: poolC a.P :: blkC a.g (bookL 16 16 a.tp) 180 :: (shL a.Sh e.S ++ (rollL a.Rl e.ps ++ (blkC a.kg (bookL 16 16 a.kp) 180 :: cs)))
structure EM.Ok (N : Nat) (e : EM) (a : EX) : Prop where
  bt : Bk a.P 16 16 a.tp a.tN e.T
  bk : Bk a.P 16 16 a.kp a.kN e.K
  sh : OkS N e.S
  len : e.ps.length = 8
  pok : ∀ p ∈ e.ps, p.ok ∧ p.a ≤ (e.op : Int)
  top : e.op ≤ 1099511627776
  ev1 : 1 ≤ e.ev
  ev2 : e.ev ≤ 64
/-- Behind an entry that was taken. -/
def EM.up (e : EM) (T' : Sheets) (S' : St) (ps' : List Pl) : EM := ⟨e.op + 1, if (e.op + 1) % e.ev = 0 then e.op + 1 else e.kop, e.ev, T', if (e.op + 1) % e.ev = 0 then T' else e.K, S', ps'⟩
/-- What Apply does. -/
inductive ApE (e : EM) (c q k : Int) (nm tx : ByteArray) (n m : Int) : EM → Int → Int → List ByteArray → Bool → Int → Prop
  | bad (h : mayT c q k nm tx n m = false) : ApE e c q k nm tx n m e 0 0 [] false 81
  | fin (h : mayT c q k nm tx n m = true) (ho : e.op = 1099511627776) : ApE e c q k nm tx n m e 0 0 [] false 84
  | ok (h : mayT c q k nm tx n m = true) (ho : e.op < 1099511627776) {i : Nat} {p : Pl} (hc : c = (i : Int)) (hi : i < 8) (hp : e.ps[i]? = some p) {T' : Sheets} {S' : St} {ps' : List Pl} {x y : Int} {items : List ByteArray} {fr : Bool} (hA : ApS e.op e.T e.S e.ps i p q k nm tx n m T' S' ps' x y items fr) : ApE e c q k nm tx n m (e.up T' S' ps') x y items fr 0
theorem ApS.okS {N op : Nat} {T T' : Sheets} {S S' : St} {ps ps' : List Pl} {i : Nat} {p : Pl} {q k : Int} {nm tx : ByteArray} {n m x y : Int} {items : List ByteArray} {fr : Bool} {P : Nat} {cs : List Comp} {w : World} (hS : OkS N S) (hA : All (shL P S ++ cs) w) (hk : chkA k nm.size tx.size n m = 0) (h : ApS op T S ps i p q k nm tx n m T' S' ps' x y items fr) : OkS (N + 1) S' := by
  have up : OkS (N + 1) S := ⟨hS.len, fun i q hq => by
    have O := hS.each i q hq
    exact ⟨O.nm0, O.nm16, O.len, O.small, O.fin, O.gs, O.gk, Nat.le_succ_of_le O.cn⟩, hS.one⟩
  cases h with
  | same h => exact up
  | old h => exact up
  | new h s' hD => exact deed_ok hS (fun a b h => tidy_of hA a b h) hk hD
theorem ApS.okP {N op : Nat} {T T' : Sheets} {S S' : St} {ps ps' : List Pl} {i : Nat} {p : Pl} {q k : Int} {nm tx : ByteArray} {n m x y : Int} {items : List ByteArray} {fr : Bool} (hS : OkS N S) (hk : chkA k nm.size tx.size n m = 0) (hq : 1 ≤ q ∧ q ≤ 1099511627776) (ho : op < 1099511627776) (h8 : ps.length = 8) (hp : ∀ p ∈ ps, p.ok ∧ p.a ≤ (op : Int)) (h : ApS op T S ps i p q k nm tx n m T' S' ps' x y items fr) : ps'.length = 8 ∧ ∀ p ∈ ps', p.ok ∧ p.a ≤ ((op + 1 : Nat) : Int) := by
  have up : ∀ p ∈ ps, p.ok ∧ p.a ≤ ((op + 1 : Nat) : Int) := fun p h => ⟨(hp p h).1, by have := (hp p h).2; omega⟩
  cases h with
  | same h => exact ⟨h8, up⟩
  | old h => exact ⟨h8, up⟩
  | new h s' hD =>
    refine ⟨by rw [List.length_set]; exact h8, fun r hr => ?_⟩
    rcases List.mem_or_eq_of_mem_set hr with hr | hr
    · exact up r hr
    · subst hr
      refine ⟨Or.inr ⟨rfl, ?_⟩, Int.le_refl _⟩
      have := deed_res hS hk hD
      unfold may
      simp only [decide_eq_true_eq]
      exact ⟨hq.1, hq.2, by omega, by omega, this⟩
set_option maxRecDepth 1000000 in
set_option maxHeartbeats 6400000 in
theorem Apply_any {N X : Nat} {e : EM} {a : EX} {c q k : Int} {nm tx : ByteArray} {n m : Int} {cs : List Comp} {w0 w : World} (hin : inC w0 ∈ cs) (hT0 : Tab w0) (hE : e.Ok N a) (hN : N < 1152921504606846976) (A : All (e.L X a cs) w) :
    Calls Tryz.prog 26 #[.pointer (some ⟨X, 0, none⟩), entV c q k nm tx n m] w fun r w' => ∃ e' a' x y items fr er so sc, r = .returned (.tuple #[resV x y (.slice so (List.length items) sc), .bool fr, .int .i64 er]) ∧ ApE e c q k nm tx n m e' x y items fr er ∧ e'.Ok (N + 1) a' ∧ All (ownC 9 (.slice so items.length sc) (txtV items) :: e'.L X a' cs) w' := by
  obtain ⟨op, kop, ev, T, K, S, ps⟩ := e
  obtain ⟨g, kg, Sh, Rl, P, tp, kp, tN, kN⟩ := a
  obtain ⟨bt, bk, sh, len, pok, top, ev1, ev2⟩ := hE
  simp only [EM.L] at A
  simp only at bt bk sh len pok top ev1 ev2
  have up : EM.Ok (N + 1) ⟨op, kop, ev, T, K, S, ps⟩ ⟨g, kg, Sh, Rl, P, tp, kp, tN, kN⟩ := ⟨bt, bk, ⟨sh.len, fun i q hq => by
    have O := sh.each i q hq
    exact ⟨O.nm0, O.nm16, O.len, O.small, O.fin, O.gs, O.gk, Nat.le_succ_of_le O.cn⟩, sh.one⟩, len, pok, top, ev1, ev2⟩
  have UP := hid up
  clear up
  obtain ⟨E, hEE⟩ : ∃ E, Hid (E = w.heap.size) := ⟨_, hid rfl⟩
  have A1 := hid ((A.addBlk [.int .i64 c, .int .i64 q, .int .i64 k, .string nm, .string tx, .int .i64 n, .int .i64 m] 36).addBlk [.int .i64 0, .int .i64 0, .slice none 0 0] 56)
  have sz : ∀ (V : World) (o : Obj), (V.alloc o).heap.size = V.heap.size + 1 := fun V o => by simp
  rw [sz, ← hEE.out] at A1
  have CM : Hid (∀ W, All (blkC (E + 1) [.int .i64 0, .int .i64 0, .slice none 0 0] 56 :: blkC E [.int .i64 c, .int .i64 q, .int .i64 k, .string nm, .string tx, .int .i64 n, .int .i64 m] 36 :: blkC X (engV op g Sh Rl kop kg ev) 92 :: poolC P :: blkC g (bookL 16 16 tp) 180 :: (shL Sh S ++ (rollL Rl ps ++ (blkC kg (bookL 16 16 kp) 180 :: cs)))) W → Calls Tryz.prog 52 #[.agg #[.int .i64 c, .int .i64 q, .int .i64 k, .string nm, .string tx, .int .i64 n, .int .i64 m]] W fun r w' => r = .returned (.bool (mayT c q k nm tx n m)) ∧ Hid (All (blkC (E + 1) [.int .i64 0, .int .i64 0, .slice none 0 0] 56 :: blkC E [.int .i64 c, .int .i64 q, .int .i64 k, .string nm, .string tx, .int .i64 n, .int .i64 m] 36 :: blkC X (engV op g Sh Rl kop kg ev) 92 :: poolC P :: blkC g (bookL 16 16 tp) 180 :: (shL Sh S ++ (rollL Rl ps ++ (blkC kg (bookL 16 16 kp) 180 :: cs)))) w')) := hid (fun W h => (mayBeE_any (hT0.below (h.into (by simp [hin]))) c q k nm tx n m).mono fun r w' hr => ⟨hr.1, hid (h.later hr.2)⟩)
  have ZB : Hid (∀ W, All (blkC (E + 1) [.int .i64 0, .int .i64 0, .slice none 0 0] 56 :: blkC E [.int .i64 c, .int .i64 q, .int .i64 k, .string nm, .string tx, .int .i64 n, .int .i64 m] 36 :: blkC X (engV op g Sh Rl kop kg ev) 92 :: poolC P :: blkC g (bookL 16 16 tp) 180 :: (shL Sh S ++ (rollL Rl ps ++ (blkC kg (bookL 16 16 kp) 180 :: cs)))) W → W.cell? ⟨E + 1, 0, none⟩ = some (.int .i64 0) ∧ W.cell? ⟨E + 1, 1, none⟩ = some (.int .i64 0) ∧ W.cell? ⟨E + 1, 2, none⟩ = some (.slice none 0 0) ∧ W.frozen? ⟨E + 1, 0, none⟩ = false ∧ W.frozen? ⟨E + 1, 1, none⟩ = false ∧ W.frozen? ⟨E + 1, 2, none⟩ = false ∧ E + 1 < W.heap.size ∧ W.cell? ⟨X, 0, none⟩ = some (.int .i64 (op : Int))) := hid (fun W h => ⟨cell_in h List.mem_cons_self rfl, cell_in h List.mem_cons_self rfl, cell_in h List.mem_cons_self rfl, free_in h List.mem_cons_self 0, free_in h List.mem_cons_self 1, free_in h List.mem_cons_self 2, lt_in h List.mem_cons_self, cell_in (P := X) (C := engV op g Sh Rl kop kg ev) (t := 92) h (by simp) rfl⟩)
  clear A
  unfold entV
  go_enter Tryz.func26, Tryz.ntmps26
  go_upto_region 1 with fail
  simp only [← hEE.out]
  generalize (w.alloc (.cells #[.int .i64 c, .int .i64 q, .int .i64 k, .string nm, .string tx, .int .i64 n, .int .i64 m] 36)).alloc (.cells #[.int .i64 0, .int .i64 0, .slice none 0 0] 56) = w1 at *
  have eb : ∀ o v, ([.int .i64 c, .int .i64 q, .int .i64 k, .string nm, .string tx, .int .i64 n, .int .i64 m] : List Value)[o]? = some v → w1.cell? ⟨E, o, none⟩ = some v := fun o v h => cell_in (P := E) (t := 36) A1.out (by simp) h
  have e0 := eb 0 _ rfl
  have e1 := eb 1 _ rfl
  have e2 := eb 2 _ rfl
  have e3 := eb 3 _ rfl
  have e4 := eb 4 _ rfl
  have e5 := eb 5 _ rfl
  have e6 := eb 6 _ rfl
  clear eb sz hEE
  by_cases hm : mayT c q k nm tx n m = false
  · rw [hm] at CM
    have AP := hid (ApE.bad (e := ⟨op, kop, ev, T, K, S, ps⟩) hm)
    go_wp2_with (go_at_call 52; refine (CM.out _ A1.out).mono ?_; rintro r w2 ⟨rfl, A2⟩; obtain ⟨r0, r1, r2, f0, f1, f2, lR, _⟩ := ZB.out _ A2.out)
    have FIN : Hid (All (blkC (E + 1) [.int .i64 0, .int .i64 0, .slice none 0 0] 56 :: blkC E [.int .i64 c, .int .i64 q, .int .i64 k, .string nm, .string tx, .int .i64 n, .int .i64 m] 36 :: blkC X (engV op g Sh Rl kop kg ev) 92 :: poolC P :: blkC g (bookL 16 16 tp) 180 :: (shL Sh S ++ (rollL Rl ps ++ (blkC kg (bookL 16 16 kp) 180 :: cs)))) (((w2.setCell ⟨E + 1, 0, none⟩ (.int .i64 0)).setCell ⟨E + 1, 1, none⟩ (.int .i64 0)).setCell ⟨E + 1, 2, none⟩ (.slice none 0 0))) := hid (((A2.out.setBlk 0 (.int .i64 0)).setBlk 1 (.int .i64 0)).setBlk 2 (.slice none 0 0))
    generalize (((w2.setCell ⟨E + 1, 0, none⟩ (.int .i64 0)).setCell ⟨E + 1, 1, none⟩ (.int .i64 0)).setCell ⟨E + 1, 2, none⟩ (.slice none 0 0)) = w8 at *
    clear r0 r1 r2
    have r0 := cell_in (o := 0) FIN.out List.mem_cons_self rfl
    have r1 := cell_in (o := 1) FIN.out List.mem_cons_self rfl
    have r2 := cell_in (o := 2) FIN.out List.mem_cons_self rfl
    refine bodyPost_ret (v := .tuple #[resV 0 0 (.slice none 0 0), .bool false, .int .i64 81]) (by simp only [results, Tryz.f26]; go_simp) rfl ?_
    exact ⟨⟨op, kop, ev, T, K, S, ps⟩, ⟨g, kg, Sh, Rl, P, tp, kp, tN, kN⟩, 0, 0, [], false, 81, none, 0, rfl, AP.out, UP.out, All.addNil (e := 9) FIN.out.tail.tail⟩
  have hm : mayT c q k nm tx n m = true := by simpa using hm
  have hm0 := hm
  rw [hm] at CM
  by_cases ho : op = 1099511627776
  · have d1 : (((op : Nat) : Int) == 1099511627776) = true := by simp; omega
    have AP := hid (ApE.fin (e := ⟨op, kop, ev, T, K, S, ps⟩) hm ho)
    go_wp2_with (first | (go_at_call 52; refine (CM.out _ A1.out).mono ?_; rintro r w2 ⟨rfl, A2⟩; obtain ⟨r0, r1, r2, f0, f1, f2, lR, x0⟩ := ZB.out _ A2.out) | (go_at_call 14; refine (Op_any x0).mono ?_; rintro r w3 ⟨rfl, h3⟩; subst w3))
    have FIN : Hid (All (blkC (E + 1) [.int .i64 0, .int .i64 0, .slice none 0 0] 56 :: blkC E [.int .i64 c, .int .i64 q, .int .i64 k, .string nm, .string tx, .int .i64 n, .int .i64 m] 36 :: blkC X (engV op g Sh Rl kop kg ev) 92 :: poolC P :: blkC g (bookL 16 16 tp) 180 :: (shL Sh S ++ (rollL Rl ps ++ (blkC kg (bookL 16 16 kp) 180 :: cs)))) (((w2.setCell ⟨E + 1, 0, none⟩ (.int .i64 0)).setCell ⟨E + 1, 1, none⟩ (.int .i64 0)).setCell ⟨E + 1, 2, none⟩ (.slice none 0 0))) := hid (((A2.out.setBlk 0 (.int .i64 0)).setBlk 1 (.int .i64 0)).setBlk 2 (.slice none 0 0))
    generalize (((w2.setCell ⟨E + 1, 0, none⟩ (.int .i64 0)).setCell ⟨E + 1, 1, none⟩ (.int .i64 0)).setCell ⟨E + 1, 2, none⟩ (.slice none 0 0)) = w8 at *
    clear r0 r1 r2
    have r0 := cell_in (o := 0) FIN.out List.mem_cons_self rfl
    have r1 := cell_in (o := 1) FIN.out List.mem_cons_self rfl
    have r2 := cell_in (o := 2) FIN.out List.mem_cons_self rfl
    refine bodyPost_ret (v := .tuple #[resV 0 0 (.slice none 0 0), .bool false, .int .i64 84]) (by simp only [results, Tryz.f26]; go_simp) rfl ?_
    exact ⟨⟨op, kop, ev, T, K, S, ps⟩, ⟨g, kg, Sh, Rl, P, tp, kp, tN, kN⟩, 0, 0, [], false, 84, none, 0, rfl, AP.out, UP.out, All.addNil (e := 9) FIN.out.tail.tail⟩
  have d1 : (((op : Nat) : Int) == 1099511627776) = false := by simp; omega
  simp only [mayT, decide_eq_true_eq] at hm0
  obtain ⟨c0, c8, q0, q1, hk⟩ := hm0
  obtain ⟨i, rfl⟩ : ∃ i : Nat, c = (i : Int) := ⟨c.toNat, by omega⟩
  have hi : i < 8 := by omega
  obtain ⟨p, hp⟩ : ∃ p, ps[i]? = some p := ⟨ps[i]'(by omega), List.getElem?_eq_getElem _⟩
  have hpk := pok p (List.mem_of_getElem? hp)
  have ho' : op < 1099511627776 := by omega
  have CA : Hid (∀ (b : List Comp) W, All (b ++ (blkC (E + 1) [.int .i64 0, .int .i64 0, .slice none 0 0] 56 :: blkC E [.int .i64 (i : Int), .int .i64 q, .int .i64 k, .string nm, .string tx, .int .i64 n, .int .i64 m] 36 :: blkC X (engV op g Sh Rl kop kg ev) 92 :: poolC P :: blkC g (bookL 16 16 tp) 180 :: (shL Sh S ++ (rollL Rl ps ++ (blkC kg (bookL 16 16 kp) 180 :: cs))))) W → Calls Tryz.prog 53 #[.pointer (some ⟨X, 0, none⟩), .agg #[.int .i64 (i : Int), .int .i64 q, .int .i64 k, .string nm, .string tx, .int .i64 n, .int .i64 m]] W fun r w' => ∃ T' S' ps' x y items fr so sc P' tp' tN', r = .returned (.tuple #[.agg #[.int .i64 x, .int .i64 y, .slice so (List.length items) sc], .bool fr]) ∧ Hid (ApS op T S ps i p q k nm tx n m T' S' ps' x y items fr) ∧ Hid (Bk P' 16 16 tp' tN' T') ∧ Hid (∀ z ∈ P, z ∈ P') ∧ Hid (All (b ++ (ownC 9 (.slice so items.length sc) (txtV items) :: blkC (E + 1) [.int .i64 0, .int .i64 0, .slice none 0 0] 56 :: blkC E [.int .i64 (i : Int), .int .i64 q, .int .i64 k, .string nm, .string tx, .int .i64 n, .int .i64 m] 36 :: blkC X (engV (op + 1) g Sh Rl kop kg ev) 92 :: poolC P' :: blkC g (bookL 16 16 tp') 180 :: (shL Sh S' ++ (rollL Rl ps' ++ (blkC kg (bookL 16 16 kp) 180 :: cs))))) w')) := hid (fun b W h => by
    have h1 : All (blkC X (engV op g Sh Rl kop kg ev) 92 :: poolC P :: blkC g (bookL 16 16 tp) 180 :: (shL Sh S ++ (rollL Rl ps ++ (blkC kg (bookL 16 16 kp) 180 :: (b ++ (blkC (E + 1) [.int .i64 0, .int .i64 0, .slice none 0 0] 56 :: blkC E [.int .i64 (i : Int), .int .i64 q, .int .i64 k, .string nm, .string tx, .int .i64 n, .int .i64 m] 36 :: cs)))))) W := by
      refine h.perm ?_
      have := perm_by 7 [b, [blkC (E + 1) [.int .i64 0, .int .i64 0, .slice none 0 0] 56, blkC E [.int .i64 (i : Int), .int .i64 q, .int .i64 k, .string nm, .string tx, .int .i64 n, .int .i64 m] 36], [blkC X (engV op g Sh Rl kop kg ev) 92, poolC P, blkC g (bookL 16 16 tp) 180], shL Sh S, rollL Rl ps, [blkC kg (bookL 16 16 kp) 180], cs] [2, 3, 4, 5, 0, 1, 6] rfl (by decide)
      simpa [List.getD] using this
    refine (applyS_any (q := q) (by simp [hin]) hT0 sh hN bt len hi hp hpk.1 hpk.2 ⟨q0, q1⟩ ho' hk h1).mono ?_
    rintro r w' ⟨T', S', ps', x, y, items, fr, so, sc, P', tp', tN', rfl, hA, hB', hsub, h2⟩
    refine ⟨T', S', ps', x, y, items, fr, so, sc, P', tp', tN', rfl, hid hA, hid hB', hid hsub, hid ?_⟩
    refine h2.perm ?_
    have := perm_by 8 [[ownC 9 (.slice so items.length sc) (txtV items)], [blkC X (engV (op + 1) g Sh Rl kop kg ev) 92], poolC P' :: [blkC g (bookL 16 16 tp') 180], shL Sh S' ++ rollL Rl ps', [blkC kg (bookL 16 16 kp) 180], b, [blkC (E + 1) [.int .i64 0, .int .i64 0, .slice none 0 0] 56, blkC E [.int .i64 (i : Int), .int .i64 q, .int .i64 k, .string nm, .string tx, .int .i64 n, .int .i64 m] 36], cs] [5, 0, 6, 1, 2, 3, 4, 7] rfl (by decide)
    simpa [List.getD] using this)
  have HP := hid hp
  go_upto_region 5 with (first | (go_at_call 52; refine (CM.out _ A1.out).mono ?_; rintro r w2 ⟨rfl, A2⟩; obtain ⟨r0, r1, r2, f0, f1, f2, lR, x0⟩ := ZB.out _ A2.out) | (go_at_call 14; refine (Op_any x0).mono ?_; rintro r w3 ⟨rfl, h3⟩; subst w3))
  have OKS2 : Hid (∀ (T' : Sheets) (S' : St) (ps' : List Pl) (x y : Int) (items : List ByteArray) (fr : Bool) (P' : Pool) (tp' : List Nat) (tN' : Nodes) (k2 : Nat) (kp' : List Nat) (kN' : Nodes) (g2 : Nat), ApS op T S ps i p q k nm tx n m T' S' ps' x y items fr → Bk P' 16 16 tp' tN' T' → Bk P' 16 16 kp' kN' (if (op + 1) % ev = 0 then T' else K) → ((⟨op, kop, ev, T, K, S, ps⟩ : EM).up T' S' ps').Ok (N + 1) ⟨g, g2, Sh, Rl, P', tp', kp', tN', kN'⟩) := hid (fun T' S' ps' x y items fr P' tp' tN' k2 kp' kN' g2 hA h1 h2 => by
    have h3 := hA.okP sh hk ⟨q0, q1⟩ ho' len pok
    have hsh : All (shL Sh S ++ ([blkC X (engV op g Sh Rl kop kg ev) 92, poolC P, blkC g (bookL 16 16 tp) 180] ++ (rollL Rl ps ++ (blkC kg (bookL 16 16 kp) 180 :: cs)))) w1 := A1.out.tail.tail.perm (List.perm_append_comm_assoc [_, _, _] _ _)
    exact ⟨h1, h2, hA.okS sh hsh hk, h3.1, h3.2, by simp only [EM.up]; omega, ev1, ev2⟩)
  have AOK : Hid (∀ (T' : Sheets) (S' : St) (ps' : List Pl) (x y : Int) (items : List ByteArray) (fr : Bool), ApS op T S ps i p q k nm tx n m T' S' ps' x y items fr → ApE ⟨op, kop, ev, T, K, S, ps⟩ (i : Int) q k nm tx n m ((⟨op, kop, ev, T, K, S, ps⟩ : EM).up T' S' ps') x y items fr 0) := hid (fun T' S' ps' x y items fr hA => ApE.ok hm ho' rfl hi hp hA)
  have BK := hid bk
  have EV := hid (⟨ev1, ev2, ho'⟩ : 1 ≤ ev ∧ ev ≤ 64 ∧ op < 1099511627776)
  have el : ∀ o v, ([.int .i64 (i : Int), .int .i64 q, .int .i64 k, .string nm, .string tx, .int .i64 n, .int .i64 m] : List Value)[o]? = some v → w2.cell? ⟨E, o, none⟩ = some v := fun o v h => cell_in (P := E) (t := 36) A2.out (by simp) h
  clear e0 e1 e2 e3 e4 e5 e6 r0 r1 r2 f0 f1 f2 lR x0
  have e0 := el 0 _ rfl
  have e1 := el 1 _ rfl
  have e2 := el 2 _ rfl
  have e3 := el 3 _ rfl
  have e4 := el 4 _ rfl
  have e5 := el 5 _ rfl
  have e6 := el 6 _ rfl
  have lE : E < w2.heap.size := lt_in A2.out (C := [.int .i64 (i : Int), .int .i64 q, .int .i64 k, .string nm, .string tx, .int .i64 n, .int .i64 m]) (t := 36) (by simp)
  have DA := hid (CA.out [] w2.drew A2.out.drew)
  have DB := hid (CA.out [blkC w2.heap.size [.int .i64 0, .int .i64 0, .slice none 0 0] 56] (w2.alloc (.cells #[.int .i64 0, .int .i64 0, .slice none 0 0] 56)).drew ((A2.out.addBlk [.int .i64 0, .int .i64 0, .slice none 0 0] 56).drew))
  clear el CA CM ZB A1 A2 UP bt bk sh len pok top ev1 ev2 hm q0 q1 hk hi hp HP hpk ho ho' c0 c8 d1
  go_cut [7, 8] from 19 to 26 (fun rv fv wx => ∃ wy, wy = wx ∧ ∃ (b : Nat) (T' : Sheets) (S' : St) (ps' : List Pl) (x y : Int) (items : List ByteArray) (fr : Bool) (so : Option Addr) (sc : Nat) (P' : Pool) (tp' : List Nat) (tN' : Nodes), rv = .pointer (some ⟨b, 0, none⟩) ∧ fv = .bool fr ∧ Hid (ApS op T S ps i p q k nm tx n m T' S' ps' x y items fr) ∧ Hid (Bk P' 16 16 tp' tN' T') ∧ Hid (∀ z ∈ P, z ∈ P') ∧ Hid (All (blkC b [.int .i64 x, .int .i64 y, .slice so items.length sc] 56 :: ownC 9 (.slice so items.length sc) (txtV items) :: blkC (E + 1) [.int .i64 0, .int .i64 0, .slice none 0 0] 56 :: blkC E [.int .i64 (i : Int), .int .i64 q, .int .i64 k, .string nm, .string tx, .int .i64 n, .int .i64 m] 36 :: blkC X (engV (op + 1) g Sh Rl kop kg ev) 92 :: poolC P' :: blkC g (bookL 16 16 tp') 180 :: (shL Sh S' ++ (rollL Rl ps' ++ (blkC kg (bookL 16 16 kp) 180 :: cs)))) wx))
  case first =>
    have MK : Hid (∀ W W' x y so n sc cs', All (blkC w2.heap.size [.int .i64 0, .int .i64 0, .slice none 0 0] 56 :: cs') W → W' = ((W.setCell ⟨w2.heap.size, 0, none⟩ (.int .i64 x)).setCell ⟨w2.heap.size, 1, none⟩ (.int .i64 y)).setCell ⟨w2.heap.size, 2, none⟩ (.slice so n sc) → All (blkC w2.heap.size [.int .i64 x, .int .i64 y, .slice so n sc] 56 :: cs') W') := hid (fun W W' x y so n sc cs' h e => by rw [e]; exact ((h.setBlk 0 (.int .i64 x)).setBlk 1 (.int .i64 y)).setBlk 2 (.slice so n sc))
    go_region_law (go_simp; first | (go_at_call 53; refine DA.out.mono ?_; rintro r w3 ⟨T', S', ps', x, y, items, fr, so, sc, P', tp', tN', rfl, HA, HB, HS, H9⟩) | (go_at_call 53; refine DB.out.mono ?_; rintro r w3 ⟨T', S', ps', x, y, items, fr, so, sc, P', tp', tN', rfl, HA, HB, HS, H9⟩; have q0 := cell_in (o := 0) H9.out List.mem_cons_self rfl; have q1 := cell_in (o := 1) H9.out List.mem_cons_self rfl; have q2 := cell_in (o := 2) H9.out List.mem_cons_self rfl; have f0 := free_in H9.out List.mem_cons_self 0; have f1 := free_in H9.out List.mem_cons_self 1; have f2 := free_in H9.out List.mem_cons_self 2; have lq := lt_in H9.out List.mem_cons_self))
    all_goals (go_wp2_with fail; go_meet)
    all_goals first
      | exact ⟨_, rfl, _, T', S', ps', x, y, items, fr, so, sc, P', tp', tN', rfl, rfl, HA, HB, HS, hid (H9.out.addBlk [.int .i64 x, .int .i64 y, .slice so items.length sc] 56)⟩
      | exact ⟨_, rfl, _, T', S', ps', x, y, items, fr, so, sc, P', tp', tN', rfl, rfl, HA, HB, HS, hid (MK.out _ _ _ _ _ _ _ _ H9.out rfl)⟩
      | exact ⟨_, rfl, _, T', S', ps', x, y, items, fr, so, sc, P', tp', tN', rfl, rfl, HA, HB, HS, hid (MK.out _ _ _ _ _ _ _ _ H9.out rfl).drew⟩
  case rest =>
  obtain ⟨wx, rfl, b, T', S', ps', x, y, items, fr, so, sc, P', tp', tN', rfl, rfl, HA, HB, HS, H9⟩ := hcut
  clear e0 e1 e2 e3 e4 e5 e6 lE DA DB
  have XS : Hid (∀ (cs' : List Comp) (W : World), All cs' W → blkC X (engV (op + 1) g Sh Rl kop kg ev) 92 ∈ cs' → W.cell? ⟨X, 0, none⟩ = some (.int .i64 ((op + 1 : Nat) : Int)) ∧ W.cell? ⟨X, 6, none⟩ = some (.int .i64 (ev : Int))) := hid (fun cs' W h hm => ⟨cell_in h hm rfl, cell_in h hm rfl⟩)
  have C14 : Hid (Calls Tryz.prog 14 #[.pointer (some ⟨X, 0, none⟩)] wx.drew fun r w' => r = .returned (.int .i64 ((op + 1 : Nat) : Int)) ∧ w' = wx.drew) := hid (Op_any (XS.out _ _ H9.out.drew (by simp)).1)
  have C54 : Hid (Calls Tryz.prog 54 #[.pointer (some ⟨X, 4, none⟩), .int .i64 ((op + 1 : Nat) : Int)] wx.drew fun r w' => r = .returned (.bool (decide ((op + 1) % ev = 0))) ∧ w' = wx.drew) := hid (due_any (XS.out _ _ H9.out.drew (by simp)).2 EV.out.1 EV.out.2.1 (by have := EV.out.2.2; omega))
  have K48 := hid (keep_any (X := X) (op := op + 1) (g := g) (Sh := Sh) (Rl := Rl) (kop := kop) (kg := kg) (ev := ev) (tp := tp') (kp := tp') (P := P') (cs := shL Sh S' ++ (rollL Rl ps' ++ (blkC kg (bookL 16 16 kp) 180 :: (blkC b [.int .i64 x, .int .i64 y, .slice so items.length sc] 56 :: ownC 9 (.slice so items.length sc) (txtV items) :: blkC (E + 1) [.int .i64 0, .int .i64 0, .slice none 0 0] 56 :: blkC E [.int .i64 (i : Int), .int .i64 q, .int .i64 k, .string nm, .string tx, .int .i64 n, .int .i64 m] 36 :: cs)))) (w := wx.drew) HB.out (by
    refine H9.out.drew.perm ?_
    have := perm_by 6 [[blkC b [.int .i64 x, .int .i64 y, .slice so items.length sc] 56, ownC 9 (.slice so items.length sc) (txtV items), blkC (E + 1) [.int .i64 0, .int .i64 0, .slice none 0 0] 56, blkC E [.int .i64 (i : Int), .int .i64 q, .int .i64 k, .string nm, .string tx, .int .i64 n, .int .i64 m] 36], [blkC X (engV (op + 1) g Sh Rl kop kg ev) 92, poolC P', blkC g (bookL 16 16 tp') 180], shL Sh S', rollL Rl ps', [blkC kg (bookL 16 16 kp) 180], cs] [1, 2, 3, 4, 0, 5] rfl (by decide)
    simpa [List.getD] using this))
  go_upto_region 6 with fail
  go_cut [32] from 27 to 31 (fun dv wy => dv = .bool (decide ((op + 1) % ev = 0)) ∧ wy = wx.drew)
  case first =>
    go_region_law (go_simp; first | (go_at_call 14; refine C14.out.mono ?_; rintro r w3 ⟨rfl, h3⟩; subst w3) | (go_at_call 54; refine C54.out.mono ?_; rintro r w3 ⟨rfl, h3⟩; subst w3))
    all_goals (go_wp2_with fail; go_meet)
    all_goals exact ⟨rfl, rfl⟩
  case rest =>
  obtain ⟨rfl, rfl⟩ := hcut
  have RET : Hid (∀ (kop' kg' : Nat) (kp' : List Nat) (W W' : World) (kN' : Nodes), kop' = (if (op + 1) % ev = 0 then op + 1 else kop) → Bk P' 16 16 kp' kN' (if (op + 1) % ev = 0 then T' else K) → All (blkC (E + 1) [.int .i64 x, .int .i64 y, .slice so items.length sc] 56 :: blkC X (engV (op + 1) g Sh Rl kop' kg' ev) 92 :: poolC P' :: blkC g (bookL 16 16 tp') 180 :: (shL Sh S' ++ (rollL Rl ps' ++ (blkC kg' (bookL 16 16 kp') 180 :: (ownC 9 (.slice so items.length sc) (txtV items) :: cs))))) W → ∃ e' a' x2 y2 items2 fr2 er so2 sc2, (Ending.returned (.tuple #[resV x y (.slice so items.length sc), .bool fr, .int .i64 0])) = .returned (.tuple #[resV x2 y2 (.slice so2 (List.length items2) sc2), .bool fr2, .int .i64 er]) ∧ ApE ⟨op, kop, ev, T, K, S, ps⟩ (i : Int) q k nm tx n m e' x2 y2 items2 fr2 er ∧ e'.Ok (N + 1) a' ∧ All (ownC 9 (.slice so2 items2.length sc2) (txtV items2) :: e'.L X a' cs) W) := hid (fun kop' kg' kp' W W' kN' hk1 hk2 h => by
    refine ⟨_, ⟨g, kg', Sh, Rl, P', tp', kp', tN', kN'⟩, x, y, items, fr, 0, so, sc, rfl, AOK.out _ _ _ _ _ _ _ HA.out, OKS2.out _ _ _ _ _ _ _ _ _ _ kop' _ _ _ HA.out HB.out hk2, ?_⟩
    have h2 := perm_by 6 [[blkC X (engV (op + 1) g Sh Rl kop' kg' ev) 92, poolC P', blkC g (bookL 16 16 tp') 180], shL Sh S', rollL Rl ps', [blkC kg' (bookL 16 16 kp') 180], [ownC 9 (.slice so items.length sc) (txtV items)], cs] [4, 0, 1, 2, 3, 5] rfl (by decide)
    have h3 := h.tail.perm (by simpa [List.getD] using h2)
    simp only [EM.L, EM.up, ← hk1]
    exact h3)
  by_cases hd : (op + 1) % ev = 0
  · rw [if_pos hd, if_pos hd] at RET
    have dd : decide ((op + 1) % ev = 0) = true := by simpa using hd
    rw [dd]
    clear C14 C54 XS OKS2 AOK EV dd hd H9
    go_upto_region 8 with (go_at_call 48; refine K48.out.mono ?_; rintro r w5 ⟨g2, rfl, A5⟩)
    have AR : Hid (All (blkC (E + 1) [.int .i64 0, .int .i64 0, .slice none 0 0] 56 :: blkC X (engV (op + 1) g Sh Rl (op + 1) g2 ev) 92 :: poolC P' :: blkC g (bookL 16 16 tp') 180 :: (shL Sh S' ++ (rollL Rl ps' ++ (blkC g2 (bookL 16 16 tp') 180 :: (ownC 9 (.slice so items.length sc) (txtV items) :: (blkC b [.int .i64 x, .int .i64 y, .slice so items.length sc] 56 :: blkC kg (bookL 16 16 kp) 180 :: blkC E [.int .i64 (i : Int), .int .i64 q, .int .i64 k, .string nm, .string tx, .int .i64 n, .int .i64 m] 36 :: cs)))))) w5) := hid (by
      refine A5.perm ?_
      have := perm_by 10 [[blkC X (engV (op + 1) g Sh Rl (op + 1) g2 ev) 92, poolC P', blkC g (bookL 16 16 tp') 180], [blkC g2 (bookL 16 16 tp') 180], shL Sh S', rollL Rl ps', [blkC kg (bookL 16 16 kp) 180], [blkC b [.int .i64 x, .int .i64 y, .slice so items.length sc] 56], [ownC 9 (.slice so items.length sc) (txtV items)], [blkC (E + 1) [.int .i64 0, .int .i64 0, .slice none 0 0] 56], [blkC E [.int .i64 (i : Int), .int .i64 q, .int .i64 k, .string nm, .string tx, .int .i64 n, .int .i64 m] 36], cs] [7, 0, 2, 3, 1, 6, 5, 4, 8, 9] rfl (by decide)
      simpa [List.getD] using this)
    have RETW := hid (RET.out (op + 1) g2 tp')
    clear A5 K48 RET
    have b0 := cell_in (P := b) (o := 0) (C := [.int .i64 x, .int .i64 y, .slice so items.length sc]) (t := 56) AR.out (by simp) rfl
    have b1 := cell_in (P := b) (o := 1) (C := [.int .i64 x, .int .i64 y, .slice so items.length sc]) (t := 56) AR.out (by simp) rfl
    have b2 := cell_in (P := b) (o := 2) (C := [.int .i64 x, .int .i64 y, .slice so items.length sc]) (t := 56) AR.out (by simp) rfl
    have r0 := cell_in (o := 0) AR.out List.mem_cons_self rfl
    have r1 := cell_in (o := 1) AR.out List.mem_cons_self rfl
    have r2 := cell_in (o := 2) AR.out List.mem_cons_self rfl
    have f0 := free_in AR.out List.mem_cons_self 0
    have f1 := free_in AR.out List.mem_cons_self 1
    have f2 := free_in AR.out List.mem_cons_self 2
    have lR : E + 1 < w5.heap.size := lt_in AR.out List.mem_cons_self
    have FIN : Hid (All (blkC (E + 1) [.int .i64 x, .int .i64 y, .slice so items.length sc] 56 :: blkC X (engV (op + 1) g Sh Rl (op + 1) g2 ev) 92 :: poolC P' :: blkC g (bookL 16 16 tp') 180 :: (shL Sh S' ++ (rollL Rl ps' ++ (blkC g2 (bookL 16 16 tp') 180 :: (ownC 9 (.slice so items.length sc) (txtV items) :: (blkC b [.int .i64 x, .int .i64 y, .slice so items.length sc] 56 :: blkC kg (bookL 16 16 kp) 180 :: blkC E [.int .i64 (i : Int), .int .i64 q, .int .i64 k, .string nm, .string tx, .int .i64 n, .int .i64 m] 36 :: cs)))))) (((w5.setCell ⟨E + 1, 0, none⟩ (.int .i64 x)).setCell ⟨E + 1, 1, none⟩ (.int .i64 y)).setCell ⟨E + 1, 2, none⟩ (.slice so items.length sc))) := hid (((AR.out.setBlk 0 (.int .i64 x)).setBlk 1 (.int .i64 y)).setBlk 2 (.slice so items.length sc))
    clear AR
    go_wp2_with fail
    generalize (((w5.setCell ⟨E + 1, 0, none⟩ (.int .i64 x)).setCell ⟨E + 1, 1, none⟩ (.int .i64 y)).setCell ⟨E + 1, 2, none⟩ (.slice so items.length sc)) = w8 at *
    clear r0 r1 r2
    have r0 := cell_in (o := 0) FIN.out List.mem_cons_self rfl
    have r1 := cell_in (o := 1) FIN.out List.mem_cons_self rfl
    have r2 := cell_in (o := 2) FIN.out List.mem_cons_self rfl
    refine bodyPost_ret (v := .tuple #[resV x y (.slice so items.length sc), .bool fr, .int .i64 0]) (by simp only [results, Tryz.f26]; go_simp) rfl ?_
    have h2 := perm_by 6 [[blkC (E + 1) [.int .i64 x, .int .i64 y, .slice so items.length sc] 56, blkC X (engV (op + 1) g Sh Rl (op + 1) g2 ev) 92, poolC P', blkC g (bookL 16 16 tp') 180], shL Sh S', rollL Rl ps', [blkC g2 (bookL 16 16 tp') 180, ownC 9 (.slice so items.length sc) (txtV items)], [blkC b [.int .i64 x, .int .i64 y, .slice so items.length sc] 56, blkC kg (bookL 16 16 kp) 180, blkC E [.int .i64 (i : Int), .int .i64 q, .int .i64 k, .string nm, .string tx, .int .i64 n, .int .i64 m] 36], cs] [4, 0, 1, 2, 3, 5] rfl (by decide)
    have h3 := (FIN.out.perm (by simpa [List.getD] using h2)).tail.tail.tail
    obtain ⟨e', a', x2, y2, items2, fr2, er, so2, sc2, z1, z2, z3, z4⟩ := RETW.out w8 w8 tN' (by first | rfl | trivial) HB.out h3
    cases fr2 with
    | false => first | exact ⟨e', a', x2, y2, items2, Or.inl ⟨er, so2, sc2, z1, z2, z3, z4⟩⟩ | exact ⟨e', a', x2, y2, items2, _, er, so2, sc2, z1, z2, z3, z4⟩
    | true => first | exact ⟨e', a', x2, y2, items2, Or.inr ⟨er, so2, sc2, z1, z2, z3, z4⟩⟩ | exact ⟨e', a', x2, y2, items2, _, er, so2, sc2, z1, z2, z3, z4⟩
  · rw [if_neg hd, if_neg hd] at RET
    have dd : decide ((op + 1) % ev = 0) = false := by simpa using hd
    rw [dd]
    have AR : Hid (All (blkC (E + 1) [.int .i64 0, .int .i64 0, .slice none 0 0] 56 :: blkC X (engV (op + 1) g Sh Rl kop kg ev) 92 :: poolC P' :: blkC g (bookL 16 16 tp') 180 :: (shL Sh S' ++ (rollL Rl ps' ++ (blkC kg (bookL 16 16 kp) 180 :: (ownC 9 (.slice so items.length sc) (txtV items) :: (blkC b [.int .i64 x, .int .i64 y, .slice so items.length sc] 56 :: blkC E [.int .i64 (i : Int), .int .i64 q, .int .i64 k, .string nm, .string tx, .int .i64 n, .int .i64 m] 36 :: cs)))))) wx.drew) := hid (by
      refine H9.out.drew.perm ?_
      have := perm_by 9 [[blkC b [.int .i64 x, .int .i64 y, .slice so items.length sc] 56], [ownC 9 (.slice so items.length sc) (txtV items)], [blkC (E + 1) [.int .i64 0, .int .i64 0, .slice none 0 0] 56], [blkC E [.int .i64 (i : Int), .int .i64 q, .int .i64 k, .string nm, .string tx, .int .i64 n, .int .i64 m] 36], [blkC X (engV (op + 1) g Sh Rl kop kg ev) 92, poolC P', blkC g (bookL 16 16 tp') 180], shL Sh S', rollL Rl ps', [blkC kg (bookL 16 16 kp) 180], cs] [2, 4, 5, 6, 7, 1, 0, 3, 8] rfl (by decide)
      simpa [List.getD] using this)
    have RETW := hid (RET.out kop kg kp)
    have BK2 := hid (BK.out.mono HS.out)
    clear C14 C54 XS OKS2 AOK EV dd hd H9 K48 RET
    generalize wx.drew = w5 at *
    have b0 := cell_in (P := b) (o := 0) (C := [.int .i64 x, .int .i64 y, .slice so items.length sc]) (t := 56) AR.out (by simp) rfl
    have b1 := cell_in (P := b) (o := 1) (C := [.int .i64 x, .int .i64 y, .slice so items.length sc]) (t := 56) AR.out (by simp) rfl
    have b2 := cell_in (P := b) (o := 2) (C := [.int .i64 x, .int .i64 y, .slice so items.length sc]) (t := 56) AR.out (by simp) rfl
    have r0 := cell_in (o := 0) AR.out List.mem_cons_self rfl
    have r1 := cell_in (o := 1) AR.out List.mem_cons_self rfl
    have r2 := cell_in (o := 2) AR.out List.mem_cons_self rfl
    have f0 := free_in AR.out List.mem_cons_self 0
    have f1 := free_in AR.out List.mem_cons_self 1
    have f2 := free_in AR.out List.mem_cons_self 2
    have lR : E + 1 < w5.heap.size := lt_in AR.out List.mem_cons_self
    have FIN : Hid (All (blkC (E + 1) [.int .i64 x, .int .i64 y, .slice so items.length sc] 56 :: blkC X (engV (op + 1) g Sh Rl kop kg ev) 92 :: poolC P' :: blkC g (bookL 16 16 tp') 180 :: (shL Sh S' ++ (rollL Rl ps' ++ (blkC kg (bookL 16 16 kp) 180 :: (ownC 9 (.slice so items.length sc) (txtV items) :: (blkC b [.int .i64 x, .int .i64 y, .slice so items.length sc] 56 :: blkC E [.int .i64 (i : Int), .int .i64 q, .int .i64 k, .string nm, .string tx, .int .i64 n, .int .i64 m] 36 :: cs)))))) (((w5.setCell ⟨E + 1, 0, none⟩ (.int .i64 x)).setCell ⟨E + 1, 1, none⟩ (.int .i64 y)).setCell ⟨E + 1, 2, none⟩ (.slice so items.length sc))) := hid (((AR.out.setBlk 0 (.int .i64 x)).setBlk 1 (.int .i64 y)).setBlk 2 (.slice so items.length sc))
    clear AR
    go_wp2_with fail
    generalize (((w5.setCell ⟨E + 1, 0, none⟩ (.int .i64 x)).setCell ⟨E + 1, 1, none⟩ (.int .i64 y)).setCell ⟨E + 1, 2, none⟩ (.slice so items.length sc)) = w8 at *
    clear r0 r1 r2
    have r0 := cell_in (o := 0) FIN.out List.mem_cons_self rfl
    have r1 := cell_in (o := 1) FIN.out List.mem_cons_self rfl
    have r2 := cell_in (o := 2) FIN.out List.mem_cons_self rfl
    refine bodyPost_ret (v := .tuple #[resV x y (.slice so items.length sc), .bool fr, .int .i64 0]) (by simp only [results, Tryz.f26]; go_simp) rfl ?_
    have h2 := perm_by 6 [[blkC (E + 1) [.int .i64 x, .int .i64 y, .slice so items.length sc] 56, blkC X (engV (op + 1) g Sh Rl kop kg ev) 92, poolC P', blkC g (bookL 16 16 tp') 180], shL Sh S', rollL Rl ps', [blkC kg (bookL 16 16 kp) 180, ownC 9 (.slice so items.length sc) (txtV items)], [blkC b [.int .i64 x, .int .i64 y, .slice so items.length sc] 56, blkC E [.int .i64 (i : Int), .int .i64 q, .int .i64 k, .string nm, .string tx, .int .i64 n, .int .i64 m] 36], cs] [4, 0, 1, 2, 3, 5] rfl (by decide)
    have h3 := (FIN.out.perm (by simpa [List.getD] using h2)).tail.tail
    obtain ⟨e', a', x2, y2, items2, fr2, er, so2, sc2, z1, z2, z3, z4⟩ := RETW.out w8 w8 kN (by first | rfl | trivial) BK2.out h3
    cases fr2 with
    | false => first | exact ⟨e', a', x2, y2, items2, Or.inl ⟨er, so2, sc2, z1, z2, z3, z4⟩⟩ | exact ⟨e', a', x2, y2, items2, _, er, so2, sc2, z1, z2, z3, z4⟩
    | true => first | exact ⟨e', a', x2, y2, items2, Or.inr ⟨er, so2, sc2, z1, z2, z3, z4⟩⟩ | exact ⟨e', a', x2, y2, items2, _, er, so2, sc2, z1, z2, z3, z4⟩
end Go.Proofs.YtafickhhdemjnaaGreatDoor
