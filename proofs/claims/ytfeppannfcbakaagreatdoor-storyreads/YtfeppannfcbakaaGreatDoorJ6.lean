import Derived.Test.YtfeppannfcbakaaGreatDoorJ4
import Derived.Test.YtfeppannfcbakaaGreatDoorJ5
namespace Go.Proofs.YtfeppannfcbakaaGreatDoor
open Go.RowKit Go.Lib
set_option linter.unusedVariables false
set_option maxRecDepth 1000000
def kN : Ws := wfN.map (·.1)
theorem kN_at {k : Nat} (h : k < 9) : kN.getD k [] = nmN k := by
 obtain rfl | rfl | rfl | rfl | rfl | rfl | rfl | rfl | rfl : k = 0 ∨ k = 1 ∨ k = 2 ∨ k = 3 ∨ k = 4 ∨ k = 5 ∨ k = 6 ∨ k = 7 ∨ k = 8 := by omega
 all_goals rfl
theorem kinds_any {w : World} : Calls Tryz.prog 99 #[] w fun e w' => e = .returned (.slice (some ⟨w.heap.size, 0, none⟩) 9 9) ∧ w' = w.alloc (.cells (txW kN).toArray 9) := by
 have e1 : (txW kN).toArray = #[.string ⟨#[]⟩, .string ⟨#[109, 97, 107, 101]⟩, .string ⟨#[100, 114, 111, 112]⟩, .string ⟨#[112, 117, 115, 104]⟩, .string ⟨#[116, 114, 105, 109]⟩, .string ⟨#[116, 97, 107, 101]⟩, .string ⟨#[114, 101, 97, 100]⟩, .string ⟨#[99, 111, 117, 110, 116]⟩, .string ⟨#[108, 105, 115, 116]⟩] := rfl
 rw [e1]
 clear e1
 go_enter Tryz.func99, Tryz.ntmps99
 go_wp2
 go_ret
 exact ⟨rfl, rfl⟩
theorem rt_kinds (w : World) : Rt (w.alloc (.cells (txW kN).toArray 9)) (.slice (some ⟨w.heap.size, 0, none⟩) 9 9) kN := rt_own (own_new (All.came w) kN (by simp [kN, wfN]))
theorem rchkO_any {k : Int} {nm tx : List UInt8} {n m : Int} {w : World} : Calls Tryz.prog 98 #[opV k ⟨nm.toArray⟩ ⟨tx.toArray⟩ n m] w fun e w' => e = .returned (.int .i64 (chkO k nm tx n m)) ∧ Below w.heap.size w w' := by
 have := rcheck_any (w := w) k ⟨nm.toArray⟩ ⟨tx.toArray⟩ n m
 have e1 : (⟨nm.toArray⟩ : ByteArray).size = nm.length := by simp [ByteArray.size]
 have e2 : (⟨tx.toArray⟩ : ByteArray).size = tx.length := by simp [ByteArray.size]
 rw [e1, e2] at this
 exact this
end Go.Proofs.YtfeppannfcbakaaGreatDoor

namespace Go.Proofs.YtfeppannfcbakaaGreatDoor
open Go.RowKit
set_option linter.unusedVariables false
set_option maxRecDepth 1000000
set_option maxHeartbeats 800000
def kindW (x : List UInt8) : Option Nat := findW x 1 (kN.drop 1)
def kindA (x : List UInt8) : Value := .tuple #[.int .i64 (((kindW x).getD 0 : Nat) : Int), .bool (kindW x).isSome]
theorem kindOf_any {x : List UInt8} {w : World} (T : Wf w) : Calls Tryz.prog 168 #[.string ⟨x.toArray⟩] w fun e w' => e = .returned (kindA x) ∧ w' = w := by
 have kl : kN.length = 9 := rfl
 have TC : Hid (∀ i, i < 9 → w.cell? ⟨2, i * 2, none⟩ = some (.string ⟨(kN.getD i []).toArray⟩)) := hid (fun i hi => by rw [kN_at hi]; exact (T.2 i hi).1)
 have EQ : Hid (∀ k, ((⟨(kN.getD k []).toArray⟩ : ByteArray).toList == (⟨x.toArray⟩ : ByteArray).toList) = decide (kN.getD k [] = x)) := hid (fun k => ba_ne)
 have FA : Hid (∀ k, k < 9 → findW x k (kN.drop k) = if kN.getD k [] = x then some k else findW x (k + 1) (kN.drop (k + 1))) := hid (fun k hk => findW_at (by rw [kl]; exact hk))
 have FE : Hid (findW x 9 (kN.drop 9) = none) := hid rfl
 have HA : Hid (findW x 1 (kN.drop 1) = kindW x) := hid rfl
 have key : ∀ D, kindW x = D → Hid (kindA x = .tuple #[.int .i64 ((D.getD 0 : Nat) : Int), .bool D.isSome]) := fun D h => hid (by unfold kindA; rw [h])
 generalize kindA x = AN at *
 generalize kindW x = AW at *
 clear T kl
 generalize hX : ByteArray.mk x.toArray = X at *
 clear hX
 go_enter Tryz.func168, Tryz.ntmps168
 go_wp2
 go_loopw [4] (fun iv wr => ∃ i : Nat, 1 ≤ i ∧ i ≤ 9 ∧ iv = .int .i64 (i : Int) ∧ wr = w ∧ Hid (findW x i (kN.drop i) = AW)) (fun iv _ => 9 - (intOf iv).toNat)
 case atStart => exact ⟨1, by omega, by omega, rfl, rfl, HA⟩
 case round =>
   obtain ⟨i, hi1, hi9, rfl, rfl, hR⟩ := hrel
   clear HA
   by_cases hlt : i < 9
   · have hlt' : (i : Int) ≤ 8 := by omega
     have hlt2 : (i : Int) < 9 := by omega
     have h1 := TC.out i hlt
     have eq := EQ.out i
     by_cases hx : kN.getD i [] = x
     · rw [decide_eq_true hx] at eq
       have fin := key (some i) (by rw [← hR.out, FA.out i hlt, if_pos hx])
       generalize ByteArray.mk (kN.getD i []).toArray = Y at *
       clear hx key
       go_wp2
       go_ret2
       exact ⟨by rw [fin.out]; rfl, rfl⟩
     · rw [decide_eq_false hx] at eq
       have nx : Hid (findW x (i + 1) (kN.drop (i + 1)) = AW) := hid (by rw [← hR.out, FA.out i hlt, if_neg hx])
       generalize ByteArray.mk (kN.getD i []).toArray = Y at *
       clear hx key
       go_wp2
       go_roundw
       case rel => exact ⟨i + 1, by omega, by omega, by go_num, trivial, nx⟩
       case measure => simp [intOf]; omega
   · have hlt' : ¬ (i : Int) ≤ 8 := by omega
     have ek : i = 9 := by omega
     have fin := key none (by rw [← hR.out, ek]; exact FE.out)
     clear ek key
     go_wp2
     go_ret2
     exact ⟨by rw [fin.out]; rfl, rfl⟩
structure OpR where
 k : Int
 nm : List UInt8
 tx : List UInt8
 n : Nat
 m : Nat
def OpR.vals (o : OpR) : List Value := [.int .i64 o.k, .string ⟨o.nm.toArray⟩, .string ⟨o.tx.toArray⟩, .int .i64 (o.n : Int), .int .i64 (o.m : Int)]
def setO (c : Nat) (x : List UInt8) (o : OpR) : OpR :=
 if c = 78 then { o with nm := x } else if c = 84 then { o with tx := x } else if c = 75 then { o with n := (numW x).getD 0 } else { o with m := (numW x).getD 0 }
def okO (c : Nat) (x : List UInt8) : Bool := if c = 75 ∨ c = 77 then (numW x).isSome else true
theorem blk5f {B : Nat} {a b c d e : Value} {t : TypeId} {cs : List Comp} {w : World} (h : All (blkC B [a, b, c, d, e] t :: cs) w) : w.frozen? ⟨B, 0, none⟩ = false ∧ w.frozen? ⟨B, 1, none⟩ = false ∧ w.frozen? ⟨B, 2, none⟩ = false ∧ w.frozen? ⟨B, 3, none⟩ = false ∧ w.frozen? ⟨B, 4, none⟩ = false :=
 ⟨free_at h.1.2.1 0, free_at h.1.2.1 1, free_at h.1.2.1 2, free_at h.1.2.1 3, free_at h.1.2.1 4⟩
theorem setField_any {B c : Nat} {o : OpR} {x : List UInt8} {cs : List Comp} {w : World} (A : All (blkC B o.vals 24 :: cs) w) (V : Vars w) (hx : x.length ≤ 140737488355328) (hc : c = 78 ∨ c = 84 ∨ c = 75 ∨ c = 77) :
   Calls Tryz.prog 169 #[ptr B, .int .i32 (c : Int), .string ⟨x.toArray⟩] w fun e w' => e = .returned (.bool (okO c x)) ∧ All (blkC B (setO c x o).vals 24 :: cs) w' := by
 have N := hid (Number_any (l := x) V hx)
 unfold numA at N
 obtain ⟨k, nm, tx, n, m⟩ := o
 unfold OpR.vals at A
 simp only at A
 obtain ⟨y0, y1, y2, y3, y4, hlt⟩ := blk5 A (.head _)
 obtain ⟨f0, f1, f2, f3, f4⟩ := blk5f A
 clear V hx
 rcases hc with rfl | rfl | rfl | rfl
 · have A1 := hid (A.setBlk 1 (.string ⟨x.toArray⟩))
   clear A N
   have e1 : okO 78 x = true := rfl
   have e2 : Hid ((setO 78 x ⟨k, nm, tx, n, m⟩).vals = [.int .i64 k, .string ⟨x.toArray⟩, .string ⟨tx.toArray⟩, .int .i64 (n : Int), .int .i64 (m : Int)]) := hid rfl
   rw [e1]
   generalize (setO 78 x ⟨k, nm, tx, n, m⟩).vals = VV at *
   generalize ByteArray.mk nm.toArray = X1 at *
   generalize ByteArray.mk tx.toArray = X2 at *
   generalize ByteArray.mk x.toArray = X at *
   clear e1
   go_enter Tryz.func169, Tryz.ntmps169
   go_wp2
   go_ret
   exact ⟨rfl, by rw [e2.out]; exact A1.out⟩
 · have A1 := hid (A.setBlk 2 (.string ⟨x.toArray⟩))
   clear A N
   have e1 : okO 84 x = true := rfl
   have e2 : Hid ((setO 84 x ⟨k, nm, tx, n, m⟩).vals = [.int .i64 k, .string ⟨nm.toArray⟩, .string ⟨x.toArray⟩, .int .i64 (n : Int), .int .i64 (m : Int)]) := hid rfl
   rw [e1]
   generalize (setO 84 x ⟨k, nm, tx, n, m⟩).vals = VV at *
   generalize ByteArray.mk nm.toArray = X1 at *
   generalize ByteArray.mk tx.toArray = X2 at *
   generalize ByteArray.mk x.toArray = X at *
   clear e1
   go_enter Tryz.func169, Tryz.ntmps169
   go_wp2
   go_ret
   exact ⟨rfl, by rw [e2.out]; exact A1.out⟩
 · have A0 := hid A
   clear A
   have e1 : okO 75 x = (numW x).isSome := rfl
   have e2 : Hid ((setO 75 x ⟨k, nm, tx, n, m⟩).vals = [.int .i64 k, .string ⟨nm.toArray⟩, .string ⟨tx.toArray⟩, .int .i64 (((numW x).getD 0 : Nat) : Int), .int .i64 (m : Int)]) := hid rfl
   rw [e1]
   generalize (setO 75 x ⟨k, nm, tx, n, m⟩).vals = VV at *
   generalize (numW x).getD 0 = Z at *
   generalize (numW x).isSome = YB at *
   generalize ByteArray.mk nm.toArray = X1 at *
   generalize ByteArray.mk tx.toArray = X2 at *
   generalize ByteArray.mk x.toArray = X at *
   clear e1
   go_enter Tryz.func169, Tryz.ntmps169
   go_wp2_with (go_at_call 81; refine N.out.mono ?_; rintro e w1 ⟨rfl, b1⟩; have A2 := hid (A0.out.later b1); clear b1; obtain ⟨y0, y1, y2, y3, y4, hlt⟩ := blk5 A2.out (.head _); obtain ⟨f0, f1, f2, f3, f4⟩ := blk5f A2.out; refine Hid.out ?_)
   refine hid ?_
   have A3 := hid (A2.out.setBlk 3 (.int .i64 (Z : Int)))
   clear A2 A0
   go_wp2
   go_ret
   exact ⟨rfl, by rw [e2.out]; exact A3.out⟩
 · have A0 := hid A
   clear A
   have e1 : okO 77 x = (numW x).isSome := rfl
   have e2 : Hid ((setO 77 x ⟨k, nm, tx, n, m⟩).vals = [.int .i64 k, .string ⟨nm.toArray⟩, .string ⟨tx.toArray⟩, .int .i64 (n : Int), .int .i64 (((numW x).getD 0 : Nat) : Int)]) := hid rfl
   rw [e1]
   generalize (setO 77 x ⟨k, nm, tx, n, m⟩).vals = VV at *
   generalize (numW x).getD 0 = Z at *
   generalize (numW x).isSome = YB at *
   generalize ByteArray.mk nm.toArray = X1 at *
   generalize ByteArray.mk tx.toArray = X2 at *
   generalize ByteArray.mk x.toArray = X at *
   clear e1
   go_enter Tryz.func169, Tryz.ntmps169
   go_wp2_with (go_at_call 81; refine N.out.mono ?_; rintro e w1 ⟨rfl, b1⟩; have A2 := hid (A0.out.later b1); clear b1; obtain ⟨y0, y1, y2, y3, y4, hlt⟩ := blk5 A2.out (.head _); obtain ⟨f0, f1, f2, f3, f4⟩ := blk5f A2.out; refine Hid.out ?_)
   refine hid ?_
   have A3 := hid (A2.out.setBlk 4 (.int .i64 (Z : Int)))
   clear A2 A0
   go_wp2
   go_ret
   exact ⟨rfl, by rw [e2.out]; exact A3.out⟩
set_option linter.unusedVariables false
set_option maxRecDepth 1000000
set_option maxHeartbeats 1600000
theorem Tryz.size27 : (Tryz.prog.info? 24).map (·.size) = some 5 := by kernel_rfl
theorem ret_cell5 {fn : Func} (hf : fn.results = #[.cell 2 24, .tmp 3, .tmp 4]) {R : Ending → World → Prop} {a : Act} {w : World} {b : Nat} {v0 v1 v2 v3 v4 k e : Value} (ht : a.tmps.getD 2 undef = ptr b) (h3 : a.tmps.getD 3 undef = k) (h4 : a.tmps.getD 4 undef = e) (hg : w.heap[b]? = some (.cells #[v0, v1, v2, v3, v4] 24 (0, 0))) (hd : a.defers = []) (hR : R (.returned (.tuple #[.agg #[v0, v1, v2, v3, v4], k, e])) w) : bodyPost Tryz.prog fn R .ret a w := by
 refine bodyPost_ret (v := .tuple #[.agg #[v0, v1, v2, v3, v4], k, e]) ?_ hd hR
 have hp : a.tmps[2]?.getD undef = ptr b := by rw [← ht]; simp
 have hp3 : a.tmps[3]?.getD undef = k := by rw [← h3]; simp
 have hp4 : a.tmps[4]?.getD undef = e := by rw [← h4]; simp
 simp [results, hf, hp, hp3, hp4, asAddr, run_loadVar_row w b 24 24 #[v0, v1, v2, v3, v4] (0, 0) _ hg Tryz.underlying24 rfl (by rw [Tryz.size27]; rfl)]
def zO : OpR := ⟨0, [], [], 0, 0⟩
structure RO where
 o : OpR
 k : Nat
 e : Int
def RO.bad (e : Int) : RO := ⟨zO, 0, e⟩
def ROPost (r : RO) (cs : List Comp) (en : Ending) (w' : World) : Prop :=
 en = .returned (.tuple #[opV r.o.k ⟨r.o.nm.toArray⟩ ⟨r.o.tx.toArray⟩ (r.o.n : Int) (r.o.m : Int), .int .i64 (r.k : Int), .int .i64 r.e]) ∧ All cs w'
def goO : List UInt8 → Ws → OpR → Option OpR
 | [], _, o => some o
 | c :: r, ws, o => if okO c.toNat (ws.getD 0 []) then goO r (ws.drop 1) (setO c.toNat (ws.getD 0 []) o) else none
def chkR8 (o : OpR) : Int := chkO o.k o.nm o.tx o.n o.m
def readO (l : Ws) : RO := if l = [] then .bad 162 else match kindW (l.getD 0 []) with
 | none => .bad 163
 | some k => if l.length < 1 + (ltN k).length then .bad 162 else match goO (ltN k) (l.drop 1) ⟨(k : Int), [], [], 0, 0⟩ with
   | none => .bad 163
   | some o => if chkR8 o ≠ 0 then .bad (chkR8 o) else ⟨o, 1 + (ltN k).length, 0⟩
theorem kindW_lt {x : List UInt8} {k : Nat} (h : kindW x = some k) : 1 ≤ k ∧ k < 9 := by
 have key : ∀ {l : Ws} {a j : Nat}, findW x a l = some j → a ≤ j ∧ j < a + l.length := by
   intro l
   induction l with
   | nil => intro a j h; simp [findW] at h
   | cons y r ih =>
     intro a j h
     rw [findW] at h
     split at h
     · simp only [Option.some.injEq] at h
       subst h
       simp
     · have := ih h
       simp only [List.length_cons]
       omega
 have := key h
 have e : (kN.drop 1).length = 8 := rfl
 omega
theorem set5 {B : Nat} {a b c d e v0 v1 v2 v3 v4 : Value} {cs : List Comp} {w : World} (A : All (blkC B [a, b, c, d, e] 24 :: cs) w) : All (blkC B [v0, v1, v2, v3, v4] 24 :: cs) (((((w.setCell ⟨B, 0, none⟩ v0).setCell ⟨B, 1, none⟩ v1).setCell ⟨B, 2, none⟩ v2).setCell ⟨B, 3, none⟩ v3).setCell ⟨B, 4, none⟩ v4) :=
 ((((A.setBlk 0 v0).setBlk 1 v1).setBlk 2 v2).setBlk 3 v3).setBlk 4 v4
theorem perm4 {α : Type} (a b c d : α) (cs : List α) : (a :: b :: c :: d :: cs).Perm (d :: a :: b :: c :: cs) := by
 refine List.Perm.trans ?_ (List.perm_middle (l₁ := [a, b, c]) (a := d) (l₂ := cs))
 exact List.Perm.refl _
theorem ReadOp_any {s : Value} {l : Ws} {cs : List Comp} {w : World} (A : All cs w) (hR : ∀ W, All cs W → Rt W s l) (hV : ∀ W, All cs W → Vars W) (hT : ∀ W, All cs W → Tab W) (hW : ∀ W, All cs W → Wf W) (hl : l.length ≤ 140737488355328) (hs : ∀ x ∈ l, x.length ≤ 140737488355328) :
   Calls Tryz.prog 148 #[s] w (ROPost (readO l) cs) := by
 obtain ⟨ao, c, rfl⟩ := (hR w A).form
 have A0 := hid (A.addBlk [.int .i64 0, .string ⟨#[]⟩, .string ⟨#[]⟩, .int .i64 0, .int .i64 0] 24)
 by_cases h0 : l = []
 · subst h0
   have e1 : readO [] = .bad 162 := rfl
   rw [e1]
   clear A hR hV hT hW hl hs e1
   go_enter Tryz.func148, Tryz.ntmps148
   go_wp2
   exact ret_cell5 rfl rfl rfl rfl A0.out.1.2.1 rfl ⟨rfl, A0.out.tail⟩
 have hpos : 0 < l.length := List.length_pos_iff.2 h0
 have n0 : ((l.length : Int) == 0) = false := by simp; exact h0
 have eR : readO l = match kindW (l.getD 0 []) with
   | none => .bad 163
   | some k => if l.length < 1 + (ltN k).length then .bad 162 else match goO (ltN k) (l.drop 1) ⟨(k : Int), [], [], 0, 0⟩ with
     | none => .bad 163
     | some o => if chkR8 o ≠ 0 then .bad (chkR8 o) else ⟨o, 1 + (ltN k).length, 0⟩ := by unfold readO; rw [if_neg h0]
 rw [eR]
 clear eR
 obtain ⟨g, o, hg, _, hcell⟩ := (hR _ A0.out.tail).at (j := 0) hpos
 subst hg
 rw [Nat.add_zero] at hcell
 have C := hid (kindOf_any (x := l.getD 0 []) (hW _ A0.out.tail))
 unfold kindA at C
 cases hk : kindW (l.getD 0 []) with
 | none =>
   simp only
   rw [hk] at C
   simp only [Option.getD_none, Option.isSome_none] at C
   clear A hR hV hT hW hs hk h0
   generalize ByteArray.mk (l.getD 0 []).toArray = X at *
   generalize l.length = n at *
   go_enter Tryz.func148, Tryz.ntmps148
   go_wp2_with (go_at_call 168; refine C.out.mono ?_; rintro e w1 ⟨rfl, hw1⟩; subst w1)
   exact ret_cell5 rfl rfl rfl rfl A0.out.1.2.1 rfl ⟨rfl, A0.out.tail⟩
 | some k =>
   simp only
   rw [hk] at C
   simp only [Option.getD_some, Option.isSome_some] at C
   obtain ⟨hk1, hk9⟩ := kindW_lt hk
   have hk9' : (k : Int) < 9 := by omega
   obtain ⟨t0, t1⟩ := (hW _ A0.out.tail).2 k hk9
   have L3 := ltN_len k
   have hsz : (⟨(ltN k).toArray⟩ : ByteArray).size = (ltN k).length := by simp [ByteArray.size]
   have wa : IntKind.i64.wrap (1 + ((ltN k).length : Int)) = 1 + (ltN k).length := by rw [IntKind.wrap_i64]; omega
   by_cases hlen : l.length < 1 + (ltN k).length
   · rw [if_pos hlen]
     have hlen' : (l.length : Int) < 1 + ((ltN k).length : Int) := by omega
     clear A hR hV hT hW hs hk h0 hlen
     generalize ByteArray.mk (l.getD 0 []).toArray = X at *
     generalize l.length = n at *
     generalize ByteArray.mk (ltN k).toArray = XL at *
     generalize ByteArray.mk (nmN k).toArray = XN at *
     generalize (ltN k).length = nl at *
     have A1 := hid (A0.out.alloc (.cells #[.string XN, .string XL] 171))
     obtain ⟨y0, y1, y2, y3, y4, ylt⟩ := blk5 A0.out (.head _)
     obtain ⟨f0, f1, f2, f3, f4⟩ := blk5f A0.out
     go_enter Tryz.func148, Tryz.ntmps148
     go_wp2_with (go_at_call 168; refine C.out.mono ?_; rintro e w1 ⟨rfl, hw1⟩; subst w1)
     first | exact ret_cell5 rfl rfl rfl rfl A1.out.1.2.1 rfl ⟨rfl, A1.out.tail⟩ | exact ret_cell5 rfl rfl rfl rfl (set5 A1.out).1.2.1 rfl ⟨rfl, (set5 A1.out).tail⟩
   · rw [if_neg hlen]
     have hlen' : ¬ (l.length : Int) < 1 + ((ltN k).length : Int) := by omega
     have LT : Hid (∀ p, p < (ltN k).length → ((ltN k).getD p 0).toNat = 78 ∨ ((ltN k).getD p 0).toNat = 84 ∨ ((ltN k).getD p 0).toNat = 75 ∨ ((ltN k).getD p 0).toNat = 77) := hid (fun p hp => ltN_in (by
       have : (ltN k).getD p 0 = (ltN k)[p] := by simp [List.getD, hp]
       rw [this]; exact List.getElem_mem hp))
     have HR : Hid (∀ p W, p < (ltN k).length → All cs W → W.cell? ⟨g, o + (1 + p), none⟩ = some (.string ⟨(l.getD (1 + p) []).toArray⟩)) := hid (fun p W hp h => by
       obtain ⟨g', o', e', _, hc⟩ := (hR W h).at (j := 1 + p) (by omega)
       simp only [Option.some.injEq, Addr.mk.injEq, and_true] at e'
       obtain ⟨rfl, rfl⟩ := e'
       exact hc)
     have HX : Hid (∀ p, p < (ltN k).length → (l.getD (1 + p) []).length ≤ 140737488355328) := hid (fun p hp => hs _ (by
       have : l.getD (1 + p) [] = l[1 + p] := by simp [List.getD, show 1 + p < l.length by omega]
       rw [this]; exact List.getElem_mem _))
     have SF : Hid (∀ (c : Nat) (x : List UInt8) (ob : OpR) B ds W, All (blkC B ob.vals 24 :: ds) W → (∀ W, All ds W → All cs W) → x.length ≤ 140737488355328 → (c = 78 ∨ c = 84 ∨ c = 75 ∨ c = 77) → Calls Tryz.prog 169 #[ptr B, .int .i32 (c : Int), .string ⟨x.toArray⟩] W fun e w' => e = .returned (.bool (okO c x)) ∧ All (blkC B (setO c x ob).vals 24 :: ds) w') := hid (fun c x ob B ds W h hcs hx hc => setField_any h (hV W (hcs W h.tail)) hx hc)
     have CK : Hid (∀ (ob : OpR) ds W, All ds W → (∀ W, All ds W → All cs W) → Calls Tryz.prog 118 #[opV ob.k ⟨ob.nm.toArray⟩ ⟨ob.tx.toArray⟩ (ob.n : Int) (ob.m : Int)] W fun e w' => e = .returned (.int .i64 (chkR8 ob)) ∧ All ds w') := hid (fun ob ds W h hcs => (chkO_any (hT W (hcs W h))).mono fun e w' ⟨he, hb⟩ => ⟨he, h.later hb⟩)
     have GO : Hid (∀ p ob, p < (ltN k).length → goO ((ltN k).drop p) (l.drop (1 + p)) ob = if okO ((ltN k).getD p 0).toNat (l.getD (1 + p) []) then goO ((ltN k).drop (p + 1)) (l.drop (1 + (p + 1))) (setO ((ltN k).getD p 0).toNat (l.getD (1 + p) []) ob) else none) := hid (fun p ob hp => by
       rw [List.drop_eq_getElem_cons hp, goO]
       have e1 : (ltN k).getD p 0 = (ltN k)[p] := by simp [List.getD, hp]
       have e2 : (l.drop (1 + p)).getD 0 [] = l.getD (1 + p) [] := by simp [List.getD]
       rw [e1, e2, List.drop_drop]
       rfl)
     have GE : Hid (∀ ob, goO ((ltN k).drop (ltN k).length) (l.drop (1 + (ltN k).length)) ob = some ob) := hid (fun ob => by rw [List.drop_length, goO])
     generalize hG : goO (ltN k) (l.drop 1) ⟨(k : Int), [], [], 0, 0⟩ = G
     have HG : Hid (goO ((ltN k).drop 0) (l.drop (1 + 0)) ⟨(k : Int), [], [], 0, 0⟩ = G) := hid (by rw [List.drop_zero]; exact hG)
     clear hG
     have AN : Hid (G = none → (match G with | none => RO.bad 163 | some o => if chkR8 o ≠ 0 then .bad (chkR8 o) else ⟨o, 1 + (ltN k).length, 0⟩) = .bad 163) := hid (fun h => by rw [h])
     have AS : Hid (∀ ob, G = some ob → (match G with | none => RO.bad 163 | some o => if chkR8 o ≠ 0 then .bad (chkR8 o) else ⟨o, 1 + (ltN k).length, 0⟩) = if chkR8 ob ≠ 0 then .bad (chkR8 ob) else ⟨ob, 1 + (ltN k).length, 0⟩) := hid (fun ob h => by rw [h])
     generalize (match G with | none => RO.bad 163 | some o => if chkR8 o ≠ 0 then .bad (chkR8 o) else ⟨o, 1 + (ltN k).length, 0⟩) = ANS at *
     have A2 := A0.out.addBlk [.string ⟨(nmN k).toArray⟩, .string ⟨(ltN k).toArray⟩] 171
     have A3 := A2.addBlk [.int .i64 (k : Int), .string ⟨#[]⟩, .string ⟨#[]⟩, .int .i64 0, .int .i64 0] 24
     have A4 := A3.addIt ⟨(ltN k).toArray⟩
     have es : ∀ (W : World) (ob : Obj), (W.alloc ob).heap.size = W.heap.size + 1 := fun W ob => by simp
     simp only [es] at A4
     clear es
     clear A hR hV hT hW hs hk h0 hlen A2 A3
     generalize hlt : ltN k = lt at *
     clear hlt
     generalize ByteArray.mk (l.getD 0 []).toArray = X at *
     generalize l.length = n at *
     generalize hXL : ByteArray.mk lt.toArray = XL at *
     have HXL := hid hXL
     clear hXL
     generalize ByteArray.mk (nmN k).toArray = XN at *
     go_enter Tryz.func148, Tryz.ntmps148
     go_wp2_with (go_at_call 168; refine C.out.mono ?_; rintro e w1 ⟨rfl, hw1⟩; subst w1)
     have B4 := hid A4
     clear A4 hcell C t0 t1 A0
     generalize w.heap.size + 1 + 1 + 1 = IT at *
     generalize w.heap.size + 1 + 1 = B9 at *
     generalize w.heap.size + 1 = B7 at *
     generalize w.heap.size = B2 at *
     go_loopw [10, 11] (fun u1 u2 wr => ∃ (p : Nat) (ob : OpR), p ≤ lt.length ∧ Hid (goO (lt.drop p) (l.drop (1 + p)) ob = G) ∧ Hid (All (itC IT XL p :: blkC B9 ob.vals 24 :: blkC B7 [.string XN, .string XL] 171 :: blkC B2 [.int .i64 0, .string ⟨#[]⟩, .string ⟨#[]⟩, .int .i64 0, .int .i64 0] 24 :: cs) wr)) (fun u1 u2 wr => lt.length - wr.iterPos IT)
     case atStart => exact ⟨0, ⟨(k : Int), [], [], 0, 0⟩, Nat.zero_le _, HG, B4⟩
     case round =>
       clear B4 HG
       obtain ⟨p, ob, hp, hGo, HA⟩ := hrel
       by_cases hlt : p < lt.length
       · have hn := next_at (lt := lt) (p := p) (g := IT) (w := wr) (by rw [HXL.out]; exact HA.out) hlt (by have := LT.out p hlt; omega)
         rw [HXL.out] at hn
         have A5 := hid (HA.out.setIt (p + 1))
         have m0 : Hid (wr.iterPos IT = p) := hid (iterPos_of HA.out.1.2.1)
         clear HA
         generalize wr.iterAt IT XL (p + 1) = w2 at hn A5
         have hcell := HR.out p w2 hlt A5.out.tail.tail.tail.tail
         have Q := hid (SF.out _ _ _ _ _ _ A5.out.swap (fun W h => h.tail.tail.tail) (HX.out p hlt) (LT.out p hlt))
         have wp : IntKind.i64.wrap (1 + (p : Int)) = 1 + p := by rw [IntKind.wrap_i64]; omega
         have tn : (1 + (p : Int)).toNat = 1 + p := by omega
         have i0 : 0 ≤ 1 + (p : Int) := by omega
         have i1 : 1 + (p : Int) < n := by omega
         have go := hGo.out
         rw [GO.out p ob hlt] at go
         have hgo := hid go
         clear go hGo GO GE SF HR HX LT CK hlen'
         by_cases hok : okO (lt.getD p 0).toNat (l.getD (1 + p) []) = true
         · rw [hok] at Q
           rw [if_pos hok] at hgo
           clear hok
           generalize setO (lt.getD p 0).toNat (l.getD (1 + p) []) ob = ob2 at *
           generalize ByteArray.mk (l.getD (1 + p) []).toArray = Y at *
           generalize (lt.getD p 0).toNat = CC at *
           go_wp2_with (go_at_call 169; refine Q.out.mono ?_; rintro e w3 ⟨rfl, A6⟩; have B6 := hid A6.swap; clear A6; refine Hid.out ?_)
           refine hid ?_
           have m6 : Hid (w3.iterPos IT = p + 1) := hid (iterPos_of B6.out.1.2.1)
           clear Q A5 hn hcell
           go_wp2
           go_roundw
           case rel => exact ⟨p + 1, ob2, hlt, hgo, B6⟩
           case measure => rw [m0.out, m6.out]; omega
         · rw [if_neg hok] at hgo
           have hok2 : okO (lt.getD p 0).toNat (l.getD (1 + p) []) = false := by simpa using hok
           rw [hok2] at Q
           have eA := AN.out hgo.out.symm
           clear hok hok2 AN AS
           subst eA
           generalize setO (lt.getD p 0).toNat (l.getD (1 + p) []) ob = ob2 at *
           generalize ByteArray.mk (l.getD (1 + p) []).toArray = Y at *
           generalize (lt.getD p 0).toNat = CC at *
           go_wp2_with (go_at_call 169; refine Q.out.mono ?_; rintro e w3 ⟨rfl, A6⟩; have B6 := hid (A6.perm (perm4 _ _ _ _ _)); clear A6; refine Hid.out ?_)
           refine hid ?_
           clear Q A5 hn hcell
           obtain ⟨y0, y1, y2, y3, y4, ylt⟩ := blk5 B6.out (.head _)
           obtain ⟨f0, f1, f2, f3, f4⟩ := blk5f B6.out
           go_wp2
           exact ret_cell5 rfl rfl rfl rfl (set5 B6.out).1.2.1 rfl ⟨rfl, (set5 B6.out).tail.tail.tail.tail⟩
       · have hn := next_end (lt := lt) (p := p) (g := IT) (w := wr) (by rw [HXL.out]; exact HA.out) hlt
         have ep : p = lt.length := by omega
         subst ep
         have hG := hGo.out
         rw [GE.out] at hG
         have eA := AS.out ob hG.symm
         clear AN AS hG hGo GO GE SF HR HX LT
         obtain ⟨ok, onm, otx, on, om⟩ := ob
         have HB := HA
         unfold OpR.vals at HB
         simp only at HB
         have Q := hid (CK.out ⟨ok, onm, otx, on, om⟩ _ _ HB.out (fun W h => h.tail.tail.tail.tail))
         simp only at Q
         clear CK HA
         obtain ⟨x0, x1, x2, x3, x4, xlt⟩ := blk5 HB.out (.tail _ (.head _))
         by_cases hX : chkR8 ⟨ok, onm, otx, on, om⟩ ≠ 0
         · rw [if_pos hX] at eA
           have hX' : (chkR8 ⟨ok, onm, otx, on, om⟩ != 0) = true := by simpa using hX
           subst eA
           clear hX
           generalize chkR8 ⟨ok, onm, otx, on, om⟩ = XX at *
           generalize ByteArray.mk onm.toArray = Y1 at *
           generalize ByteArray.mk otx.toArray = Y2 at *
           go_wp2_with (go_at_call 118; refine Q.out.mono ?_; rintro e w3 ⟨rfl, A6⟩; have B6 := hid (A6.perm (perm4 _ _ _ _ _)); clear A6; refine Hid.out ?_)
           refine hid ?_
           clear Q HB hn x0 x1 x2 x3 x4
           obtain ⟨y0, y1, y2, y3, y4, ylt⟩ := blk5 B6.out (.head _)
           obtain ⟨f0, f1, f2, f3, f4⟩ := blk5f B6.out
           go_wp2
           exact ret_cell5 rfl rfl rfl rfl (set5 B6.out).1.2.1 rfl ⟨rfl, (set5 B6.out).tail.tail.tail.tail⟩
         · rw [if_neg hX] at eA
           have hX' : chkR8 ⟨ok, onm, otx, on, om⟩ = 0 := Classical.byContradiction hX
           rw [hX'] at Q
           have ek : Hid (((1 + lt.length : Nat) : Int) = 1 + (lt.length : Int)) := hid (by omega)
           have eP : Hid (∀ en w', en = .returned (.tuple #[opV ok ⟨onm.toArray⟩ ⟨otx.toArray⟩ (on : Int) (om : Int), .int .i64 (1 + (lt.length : Int)), .int .i64 0]) → All cs w' → ROPost ANS cs en w') := hid (fun en w' h1 h2 => by subst eA; exact ⟨by rw [h1, ← ek.out], h2⟩)
           clear hX hX' eA
           generalize ByteArray.mk onm.toArray = Y1 at *
           generalize ByteArray.mk otx.toArray = Y2 at *
           go_wp2_with (go_at_call 118; refine Q.out.mono ?_; rintro e w3 ⟨rfl, A6⟩; have B6 := hid (A6.perm (perm4 _ _ _ _ _)); clear A6; refine Hid.out ?_)
           refine hid ?_
           clear Q HB hn x0 x1 x2 x3 x4
           obtain ⟨y0, y1, y2, y3, y4, ylt⟩ := blk5 B6.out (.head _)
           obtain ⟨x0, x1, x2, x3, x4, xlt⟩ := blk5 B6.out (.tail _ (.tail _ (.head _)))
           obtain ⟨f0, f1, f2, f3, f4⟩ := blk5f B6.out
           have B7' := hid (set5 (v0 := .int .i64 ok) (v1 := .string Y1) (v2 := .string Y2) (v3 := .int .i64 (on : Int)) (v4 := .int .i64 (om : Int)) B6.out)
           go_wp2
           exact ret_cell5 rfl rfl rfl rfl B7'.out.1.2.1 rfl (eP.out _ _ rfl B7'.out.tail.tail.tail.tail)
set_option linter.unusedVariables false
theorem readO_eq {k : Nat} {x : List UInt8} {ws : Ws} (hk : kindW x = some k) : readO (x :: ws) = if (x :: ws).length < 1 + (ltN k).length then .bad 162 else match goO (ltN k) ws ⟨(k : Int), [], [], 0, 0⟩ with
   | none => .bad 163
   | some o => if chkR8 o ≠ 0 then .bad (chkR8 o) else ⟨o, 1 + (ltN k).length, 0⟩ := by
 unfold readO
 rw [if_neg (by simp)]
 have e : (x :: ws).getD 0 [] = x := rfl
 rw [e, hk]
 rfl
theorem goO_back {k n m : Nat} {nm tx : List UInt8} {b : Ws} (hk1 : 1 ≤ k) (hk8 : k ≤ 8) (hn : n ≤ 1099511627776) (hm : m ≤ 1099511627776)
   (h1 : 78 ∉ ltN k → nm = []) (h2 : 84 ∉ ltN k → tx = []) (h3 : 75 ∉ ltN k → n = 0) (h4 : 77 ∉ ltN k → m = 0) : goO (ltN k) (flds nm tx n m (ltN k) ++ b) ⟨(k : Int), [], [], 0, 0⟩ = some ⟨(k : Int), nm, tx, n, m⟩ := by
 have qn := numW_digits (v := n) (by omega)
 have qm := numW_digits (v := m) (by omega)
 obtain rfl | rfl | rfl | rfl | rfl | rfl | rfl | rfl : k = 1 ∨ k = 2 ∨ k = 3 ∨ k = 4 ∨ k = 5 ∨ k = 6 ∨ k = 7 ∨ k = 8 := by omega
 all_goals
   simp only [ltN, wfN, List.getD_cons_succ, List.getD_cons_zero, List.mem_cons, List.not_mem_nil, or_false] at h1 h2 h3 h4 ⊢
   first | (have g1 := h1 (by decide)) | skip
   first | (have g2 := h2 (by decide)) | skip
   first | (have g3 := h3 (by decide)) | skip
   first | (have g4 := h4 (by decide)) | skip
   clear h1 h2 h3 h4
   simp_all [goO, flds, fieldW, okO, setO]
theorem readO_back {k n m : Int} {nm tx : List UInt8} {b : Ws} (h : chkO k nm tx n m = 0) : readO (opA k nm tx n m ++ b) = ⟨⟨k, nm, tx, n.toNat, m.toNat⟩, (opA k nm tx n m).length, 0⟩ := by
 obtain ⟨hk1, hk8, hn0, hn1, hm0, hm1, _, _, z1, z2, z3, z4⟩ := chkO_zero h
 obtain ⟨k, rfl⟩ := Int.eq_ofNat_of_zero_le (show 0 ≤ k by omega)
 obtain ⟨n, rfl⟩ := Int.eq_ofNat_of_zero_le hn0
 obtain ⟨m, rfl⟩ := Int.eq_ofNat_of_zero_le hm0
 have e0 : opA (k : Int) nm tx (n : Int) (m : Int) = nmN k :: flds nm tx n m (ltN k) := by
   unfold opA
   rw [h, if_neg (by simp)]
   simp only [Int.toNat_natCast]
   rfl
 simp only [Int.toNat_natCast] at z1 z2 z3 z4 ⊢
 have hk : kindW (nmN k) = some k := by
   obtain rfl | rfl | rfl | rfl | rfl | rfl | rfl | rfl : k = 1 ∨ k = 2 ∨ k = 3 ∨ k = 4 ∨ k = 5 ∨ k = 6 ∨ k = 7 ∨ k = 8 := by omega
   all_goals rfl
 rw [e0, List.cons_append, readO_eq hk, if_neg (by simp [flds]; omega), goO_back (by omega) (by omega) (by omega) (by omega) z1 z2 (fun h => by have := z3 h; omega) (fun h => by have := z4 h; omega)]
 have hc : chkR8 ⟨(k : Int), nm, tx, n, m⟩ = 0 := h
 simp only
 rw [hc, if_neg (by simp)]
 simp [flds]
 omega
theorem opA_len (k n m : Int) (nm tx : List UInt8) : (opA k nm tx n m).length ≤ 4 := by
 unfold opA
 split
 · simp
 · have := ltN_len k.toNat
   simp [opW, flds]
   omega
theorem nmN_len (k : Nat) : (nmN k).length ≤ 5 := by
 have key : ∀ p ∈ wfN, p.1.length ≤ 5 := by decide
 unfold nmN
 by_cases hk : k < wfN.length
 · rw [List.getD, List.getElem?_eq_getElem hk]
   exact key _ (List.getElem_mem hk)
 · rw [List.getD, List.getElem?_eq_none (by omega)]
   simp
set_option linter.unusedVariables false
theorem kindW_some {x : List UInt8} {k : Nat} (h : kindW x = some k) : nmN k = x := by
 have key : ∀ {l : Ws} {a j : Nat}, findW x a l = some j → l.getD (j - a) [] = x := by
   intro l
   induction l with
   | nil => intro a j h; simp [findW] at h
   | cons y r ih =>
     intro a j h
     have hb : a ≤ j := by
       have : ∀ {l : Ws} {a j : Nat}, findW x a l = some j → a ≤ j := by
         intro l
         induction l with
         | nil => intro a j h; simp [findW] at h
         | cons y r ih =>
           intro a j h
           rw [findW] at h
           split at h
           · simp only [Option.some.injEq] at h; omega
           · have := ih h; omega
       exact this h
     rw [findW] at h
     split at h
     · rename_i hy
       simp only [Option.some.injEq] at h
       subst h
       simp [hy]
     · rename_i hy
       have h1 := ih h
       have hlt : a + 1 ≤ j := by
         have : ∀ {l : Ws} {a j : Nat}, findW x a l = some j → a ≤ j := by
           intro l
           induction l with
           | nil => intro a j h; simp [findW] at h
           | cons y r ih =>
             intro a j h
             rw [findW] at h
             split at h
             · simp only [Option.some.injEq] at h; omega
             · have := ih h; omega
         exact this h
       have : j - a = (j - (a + 1)) + 1 := by omega
       rw [this, List.getD_cons_succ]
       exact h1
 obtain ⟨h1, h9⟩ := kindW_lt h
 have := key h
 rw [← this]
 obtain rfl | rfl | rfl | rfl | rfl | rfl | rfl | rfl : k = 1 ∨ k = 2 ∨ k = 3 ∨ k = 4 ∨ k = 5 ∨ k = 6 ∨ k = 7 ∨ k = 8 := by omega
 all_goals rfl
theorem goO_1 {k : Nat} (h : k = 1 ∨ k = 2 ∨ k = 7) (ws : Ws) : goO (ltN k) ws ⟨(k : Int), [], [], 0, 0⟩ = some ⟨(k : Int), ws.getD 0 [], [], 0, 0⟩ := by
 rcases h with rfl | rfl | rfl <;> rfl
theorem goO_8 (ws : Ws) : goO (ltN 8) ws ⟨((8 : Nat) : Int), [], [], 0, 0⟩ = some ⟨((8 : Nat) : Int), [], [], 0, 0⟩ := rfl
theorem goO_3 {k : Nat} (h : k = 3 ∨ k = 5) (ws : Ws) : goO (ltN k) ws ⟨(k : Int), [], [], 0, 0⟩ = some ⟨(k : Int), ws.getD 0 [], ws.getD 1 [], 0, 0⟩ := by
 have e : (ws.drop 1).getD 0 [] = ws.getD 1 [] := by simp [List.getD]
 rw [← e]
 rcases h with rfl | rfl <;> rfl
theorem goO_4 (ws : Ws) : goO (ltN 4) ws ⟨((4 : Nat) : Int), [], [], 0, 0⟩ = if (numW (ws.getD 1 [])).isSome then some ⟨((4 : Nat) : Int), ws.getD 0 [], [], (numW (ws.getD 1 [])).getD 0, 0⟩ else none := by
 have e : (ws.drop 1).getD 0 [] = ws.getD 1 [] := by simp [List.getD]
 rw [← e]
 rfl
theorem goO_6 (ws : Ws) : goO (ltN 6) ws ⟨((6 : Nat) : Int), [], [], 0, 0⟩ = if (numW (ws.getD 1 [])).isSome then (if (numW (ws.getD 2 [])).isSome then some ⟨((6 : Nat) : Int), ws.getD 0 [], [], (numW (ws.getD 1 [])).getD 0, (numW (ws.getD 2 [])).getD 0⟩ else none) else none := by
 have e : (ws.drop 1).getD 0 [] = ws.getD 1 [] := by simp [List.getD]
 have e2 : ((ws.drop 1).drop 1).getD 0 [] = ws.getD 2 [] := by simp [List.getD]
 rw [← e, ← e2]
 rfl
theorem spelt {x : List UInt8} (h : (numW x).isSome = true) : Lib.decDigits ((numW x).getD 0) = x := by
 obtain ⟨v, hv⟩ := Option.isSome_iff_exists.1 h
 rw [hv]
 exact (numW_spelt hv).symm
theorem take_getD {ws : Ws} {n : Nat} (h : n < ws.length) : ws.take (n + 1) = ws.take n ++ [ws.getD n []] := by
 rw [List.take_add_one, List.getElem?_eq_getElem h]
 simp [List.getD, h]
theorem goO_ok {k : Nat} {ws : Ws} {o : OpR} (h1 : 1 ≤ k) (h9 : k < 9) (hl : (ltN k).length ≤ ws.length) (h : goO (ltN k) ws ⟨(k : Int), [], [], 0, 0⟩ = some o) : o.k = k ∧ flds o.nm o.tx o.n o.m (ltN k) = ws.take (ltN k).length := by
 have t1 : 0 < ws.length → ws.take 1 = [ws.getD 0 []] := fun h => by rw [take_getD h]; simp
 have t2 : 1 < ws.length → ws.take 2 = [ws.getD 0 [], ws.getD 1 []] := fun h => by rw [take_getD h, t1 (by omega)]; rfl
 have t3 : 2 < ws.length → ws.take 3 = [ws.getD 0 [], ws.getD 1 [], ws.getD 2 []] := fun h => by rw [take_getD h, t2 (by omega)]; rfl
 obtain rfl | rfl | rfl | rfl | rfl | rfl | rfl | rfl : k = 1 ∨ k = 2 ∨ k = 3 ∨ k = 4 ∨ k = 5 ∨ k = 6 ∨ k = 7 ∨ k = 8 := by omega
 · rw [goO_1 (by omega)] at h
   obtain rfl := Option.some.inj h
   exact ⟨rfl, (t1 hl).symm⟩
 · rw [goO_1 (by omega)] at h
   obtain rfl := Option.some.inj h
   exact ⟨rfl, (t1 hl).symm⟩
 · rw [goO_3 (by omega)] at h
   obtain rfl := Option.some.inj h
   exact ⟨rfl, (t2 hl).symm⟩
 · rw [goO_4] at h
   split at h
   · rename_i hs
     obtain rfl := Option.some.inj h
     refine ⟨rfl, ?_⟩
     show [_, Lib.decDigits _] = ws.take 2
     rw [t2 hl, spelt hs]
     rfl
   · cases h
 · rw [goO_3 (by omega)] at h
   obtain rfl := Option.some.inj h
   exact ⟨rfl, (t2 hl).symm⟩
 · rw [goO_6] at h
   split at h
   · rename_i hs
     split at h
     · rename_i hs2
       obtain rfl := Option.some.inj h
       refine ⟨rfl, ?_⟩
       show [_, Lib.decDigits _, Lib.decDigits _] = ws.take 3
       rw [t3 hl, spelt hs, spelt hs2]
       rfl
     · cases h
   · cases h
 · rw [goO_1 (by omega)] at h
   obtain rfl := Option.some.inj h
   exact ⟨rfl, (t1 hl).symm⟩
 · rw [goO_8] at h
   obtain rfl := Option.some.inj h
   exact ⟨rfl, rfl⟩
theorem readO_ok {l : Ws} (h : (readO l).e = 0) : chkR8 (readO l).o = 0 ∧ opA (readO l).o.k (readO l).o.nm (readO l).o.tx ((readO l).o.n : Int) ((readO l).o.m : Int) = l.take (readO l).k ∧ (readO l).k ≤ l.length := by
 cases l with
 | nil => exact absurd h (by decide)
 | cons x ws =>
   cases hk : kindW x with
   | none =>
     have e : readO (x :: ws) = .bad 163 := by
       unfold readO
       rw [if_neg (by simp)]
       have e : (x :: ws).getD 0 [] = x := rfl
       rw [e, hk]
     rw [e] at h
     exact absurd h (by decide)
   | some k =>
     obtain ⟨h1, h9⟩ := kindW_lt hk
     have e := readO_eq (ws := ws) hk
     by_cases hl : (x :: ws).length < 1 + (ltN k).length
     · rw [e, if_pos hl] at h
       exact absurd h (by decide)
     · rw [if_neg hl] at e
       cases hg : goO (ltN k) ws ⟨(k : Int), [], [], 0, 0⟩ with
       | none =>
         rw [hg] at e
         simp only at e
         rw [e] at h
         exact absurd h (by decide)
       | some o =>
         rw [hg] at e
         simp only at e
         by_cases hc : chkR8 o ≠ 0
         · rw [e, if_pos hc] at h
           exact absurd h hc
         · rw [if_neg hc] at e
           have hc0 : chkR8 o = 0 := Classical.byContradiction hc
           rw [e]
           have hlw : (ltN k).length ≤ ws.length := by simp only [List.length_cons] at hl; omega
           obtain ⟨ok, of⟩ := goO_ok h1 h9 hlw hg
           refine ⟨hc0, ?_, by simp only [List.length_cons]; omega⟩
           simp only
           unfold opA
           have hc1 : chkO o.k o.nm o.tx (o.n : Int) (o.m : Int) = 0 := hc0
           rw [hc1, if_neg (by simp), ok]
           simp only [Int.toNat_natCast]
           unfold opW
           rw [of, kindW_some hk, Nat.add_comm 1]
           rfl
end Go.Proofs.YtfeppannfcbakaaGreatDoor
