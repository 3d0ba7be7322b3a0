import Derived.Test.YtfeppannfcbakaaGreatDoorJ9
import Derived.Test.YtfeppannfcbakaaGreatDoorEv26
import Derived.Test.YtfeppannfcbakaaGreatDoorJ3
import Derived.Test.YtfeppannfcbakaaGreatDoorJ4
namespace Go.Proofs.YtfeppannfcbakaaGreatDoor
open Go.RowKit
set_option linter.unusedVariables false
set_option maxRecDepth 100000
theorem Rt_nil (W : World) : Rt W (.slice none 0 0) [] := ⟨none, 0, rfl, Nat.le_refl _, Or.inl rfl⟩
theorem BRd_nil (W : World) : BRd W (.slice none 0 0) [] := ⟨none, 0, rfl, Nat.le_refl _, Or.inl rfl⟩
theorem BRd.of_owns {w : World} {base : Nat} {s : Value} {l : List UInt8} (h : w.ownsRow base 5 1 s (cellsB l).length (cellsB l)) : BRd w s l := by
 obtain ⟨ao, c, rfl⟩ := owns_form h
 have hl := owns_len h
 have e : (cellsB l).length = l.length := by simp [cellsB]
 refine ⟨ao, c, by rw [e], by rw [← e]; exact hl.2, ?_⟩
 by_cases h0 : l = []
 · exact Or.inl h0
 · have h1 : 0 < l.length := List.length_pos_iff.2 h0
   obtain ⟨g, rfl, hc, _⟩ := owns_at h (k := 0) (u := .int .u8 (l[0].toNat : Int)) (by simp [cellsB, h1])
   refine Or.inr ⟨g, 0, rfl, World.block_lt_of_cell? w _ hc, fun j b hj => ?_⟩
   obtain ⟨g', e', hc', _⟩ := owns_at h (k := j) (u := .int .u8 (b.toNat : Int)) (by simp [cellsB, hj])
   simp only [Option.some.injEq, Addr.mk.injEq, and_true] at e'
   subst e'
   simpa using hc'
theorem brd_mem {v : Value} {l : List UInt8} {cs : List Comp} {w : World} (h : All cs w) (hm : ownC 5 v (cellsB l) ∈ cs) : BRd w v l := BRd.of_owns (base := 0) (h.mem hm).2.1
theorem ReadBack_any {e : Ev} {items : Ws} {data : List UInt8} {cs : List Comp} {w : World} (hE : ∀ W, All cs W → En W) (h : e.err items = 0) (hR : e.Rg) (hi : items.length = e.rik) (hd : data.length = e.dik) (A : All cs w) :
   Calls Tryz.prog 14 #[.string ⟨(e.line items data).toArray⟩] w fun r w' => ∃ rv dv os, r = .returned (.tuple #[.agg (e.cells2 rv dv).toArray, .int .i64 0]) ∧ All (os ++ cs) w' ∧ ∀ W, All (os ++ cs) W → Rt W rv items ∧ BRd W dv data := by
 obtain ⟨b1, b2, b3, b4, b5, b6⟩ := re_back h hR hd
 refine (ReadLine_any hE (by omega) ⟨by have := splitW_size (e.line items data); omega, fun y hy => Nat.le_trans (split_wl y hy) (by decide)⟩ A).mono ?_
 rintro r w' ⟨EC, rfl, _, hok⟩
 obtain ⟨x, r', k, vs, e1, e2, e3, e4, hA⟩ := hok b1
 rw [b3] at e1
 injection e1 with ex er
 subst ex er
 rw [b4] at e2
 obtain rfl := Option.some.inj e2
 rw [b5] at e3 e4 hA
 rw [b6] at e3 e4 hA
 obtain ⟨hF, hX⟩ := err_zero h
 obtain ⟨rv, dv, p1, p2⟩ := put_back hF hX hi hd (vs := vs) (by rw [e3]; simp)
 rw [b1, e4, p1]
 refine ⟨rv, dv, _, rfl, hA, fun W hW => ?_⟩
 rcases p2 with ⟨q, rfl, rfl⟩ | ⟨q, rfl, rfl⟩ | ⟨q, rfl, rfl, rfl, rfl⟩
 · rw [q] at hW
   exact ⟨rt_mem hW (by simp), BRd_nil W⟩
 · rw [q] at hW
   exact ⟨Rt_nil W, brd_mem hW (by simp)⟩
 · exact ⟨Rt_nil W, BRd_nil W⟩
set_option linter.unusedVariables false
set_option maxRecDepth 100000
set_option maxHeartbeats 1600000
theorem dik_le {e : Ev} (hF : e.inForm = true) : e.dik ≤ 2304 := by
 have hk := inForm_k hF
 obtain ⟨hO, hL⟩ := left_empty hF
 obtain hk | hk | hk | hk | hk | hk | hk | hk | hk | hk | hk : e.k = 1 ∨ e.k = 2 ∨ e.k = 3 ∨ e.k = 4 ∨ e.k = 5 ∨ e.k = 6 ∨ e.k = 7 ∨ e.k = 8 ∨ e.k = 9 ∨ e.k = 10 ∨ e.k = 11 := by omega
 iterate 10
   · simp [Ev.left, hk, Ev.empty, Ev.z_a, Ev.z_nb, Ev.z_nm, Ev.z_wh, Ev.z_cd, Ev.z_fr, Ev.z_op, Ev.z_en, Ev.z_lk, Ev.z_rc, Ev.z_rn, Ev.z_rk, Ev.z_sn, Ev.z_sa, Ev.z_dk] at hL
     omega
 · have hK : kindT e.k = [.int 1, .sht 30] := by rw [hk]; rfl
   rw [hK] at hO
   simp [okL, okT, okF, ok1, sub, shtL, clr, clrF, clr1, valI, lenS, Ev.cells] at hO
   omega
def nilOf : Ct → Value
 | .dat d => .slice none d.length 0
 | .res _ _ l => .slice none l.length 0
 | _ => undef
theorem slL_nil : ∀ q : List Ct, SlL q (q.map nilOf)
 | [] => trivial
 | c :: q => by
   refine ⟨?_, slL_nil q⟩
   cases c <;> first | exact ⟨_, _, rfl⟩ | trivial
def Rdg (e : Ev) (items : Ws) (data : List UInt8) (x : Int) (cs : List Comp) (r : Ending) (w' : World) : Prop :=
 ∃ (ra : Option Addr) (rc : Nat) (da : Option Addr) (dc : Nat), r = .returned (.tuple #[.agg (e.cells2 (.slice ra items.length rc) (.slice da data.length dc)).toArray, .int .i64 x]) ∧ All (ownC 9 (.slice ra items.length rc) (txW items) :: ownC 5 (.slice da data.length dc) (cellsB data) :: cs) w'
theorem rdg_of {e : Ev} {items : Ws} {data : List UInt8} {x : Int} {cs : List Comp} {r : Ending} {w' : World} {rv dv : Value} (hr : r = .returned (.tuple #[.agg (e.cells2 rv dv).toArray, .int .i64 x])) (h : All (ownC 9 rv (txW items) :: ownC 5 dv (cellsB data) :: cs) w') : Rdg e items data x cs r w' := by
 obtain ⟨a, n, e1⟩ := (rt_mem h (l := items) (v := rv) (by simp)).form
 obtain ⟨b, m, e2⟩ := (brd_mem h (l := data) (v := dv) (by simp)).form
 subst e1 e2
 exact ⟨_, _, _, _, hr, h⟩
theorem line_is (l : List UInt8) : ∃ (e : Ev) (items : Ws) (data : List UInt8), items.length ≤ 8 ∧ data.length ≤ 2304 ∧ ∀ cs r w', RLPost l cs r w' → Rdg e items data (rlErr l) cs r w' := by
 by_cases h0 : rlErr l = 0
 · obtain ⟨z1, z2⟩ := rl_zero h0
   obtain ⟨x, r, k, hw, hx⟩ : ∃ x r k, (splitW l).ws = x :: r ∧ evW x = some k := by
     cases hw : (splitW l).ws with
     | nil => rw [hw] at z2; exact absurd z2 (by decide)
     | cons x r =>
       cases hx : evW x with
       | none => rw [hw] at z2; simp [reErr, hx] at z2
       | some k => exact ⟨x, r, k, rfl, hx⟩
   rw [hw] at z2
   obtain ⟨y1, y2⟩ := re_zero z2 hx
   obtain ⟨k1, k2, k3⟩ := ev_ok hx
   obtain ⟨e, items, data, f1, f2, f3, f4, f5, f6, f7, f8, f9, f10⟩ := (read_ev (vs := (rdsL ((kindT (k : Int)).flatMap sub) r).2.2.map nilOf) ⟨by omega, by omega⟩ y1 y2 (by rw [List.length_map]; exact rdsL_len y1) (slL_nil _)).ev
   obtain ⟨hF, hX⟩ := err_zero f4
   refine ⟨e, items, data, f8, by rw [f7]; exact dik_le hF, ?_⟩
   rintro cs R w' ⟨EC, rfl, _, hok⟩
   obtain ⟨x', r', k', vs, e1, e2, e3, e4, hA⟩ := hok h0
   rw [hw] at e1
   injection e1 with ex er
   subst ex er
   rw [hx] at e2
   obtain rfl := Option.some.inj e2
   have hb := rdsL_back (b := []) (fit_of hF hX f5 f7)
   rw [List.append_nil, f2, f9] at hb
   have hb2 : (rdsL ((kindT (k : Int)).flatMap sub) r).2.2 = ((kindT (k : Int)).flatMap sub).map (ct1 e.cells items data) := by rw [hb]
   rw [hb2] at e3 e4 hA
   obtain ⟨rv, dv, p1, p2⟩ := put_back hF hX f6 f7 (vs := vs) (by rw [e3, f2]; simp)
   rw [f2] at p1 p2
   refine rdg_of (rv := rv) (dv := dv) (by rw [e4, p1, h0]) ?_
   rcases p2 with ⟨q, rfl, rfl⟩ | ⟨q, rfl, rfl⟩ | ⟨q, rfl, rfl, rfl, rfl⟩
   · rw [q] at hA
     exact (All.addNil (e := 5) hA).swap
   · rw [q] at hA
     exact All.addNil (e := 9) hA
   · rw [q] at hA
     exact All.addNil (e := 9) (All.addNil (e := 5) hA)
 · refine ⟨Ev.zero 0, [], [], by decide, by decide, ?_⟩
   rintro cs R w' ⟨EC, rfl, hbad, _⟩
   obtain ⟨e1, hA⟩ := hbad h0
   exact ⟨none, 0, none, 0, by rw [e1]; rfl, All.addNil (e := 9) (All.addNil (e := 5) hA)⟩
theorem line_ok (l : List UInt8) : (splitW l).ws.length * 16 ≤ 140737488355328 ∧ ∀ y ∈ (splitW l).ws, y.length ≤ 140737488355328 :=
 ⟨by have := splitW_size l; omega, fun y hy => Nat.le_trans (split_wl y hy) (by decide)⟩
set_option linter.unusedVariables false
set_option maxRecDepth 1000000
set_option maxHeartbeats 6400000
def exA : Ev := { Ev.zero 6 with a := 1, nm := 7, fr := true, en := 3, pk := 3, pnm := [113], ptx := [97, 32, 98] }
def exB : Ev := { Ev.zero 11 with sn := 8, sa := 1, dik := 5, dic := 5 }
def daB : List UInt8 := [1, 1, 0, 0, 0]
theorem exA_ok : exA.err [] = 0 ∧ exA.line [] [] = [114, 97, 110, 32, 49, 32, 55, 32, 102, 114, 101, 115, 104, 32, 48, 32, 51, 32, 112, 117, 115, 104, 32, 113, 32, 34, 97, 32, 98, 34, 32, 100, 111, 110, 101, 32, 48, 32, 48] := by
 refine ⟨?_, ?_⟩ <;> kernel_rfl
theorem exB_ok : exB.err [] = 0 ∧ exB.line [] daB = [115, 104, 101, 101, 116, 32, 48, 32, 56, 32, 49, 32, 48, 49, 48, 49, 48, 48, 48, 48, 48, 48] := by
 refine ⟨?_, ?_⟩ <;> kernel_rfl
theorem exA_rg : exA.Rg := by constructor <;> (simp only [exA, Ev.zero]; decide)
theorem exB_rg : exB.Rg := by constructor <;> (simp only [exB, Ev.zero]; decide)
theorem brd_blk {g : Nat} {d : List UInt8} {cs : List Comp} {W : World} (h : All cs W) (hm : blkC g (cellsB d) 5 ∈ cs) : BRd W (.slice (some ⟨g, 0, none⟩) d.length d.length) d := by
 refine ⟨_, _, rfl, Nat.le_refl _, Or.inr ⟨g, 0, rfl, (h.mem hm).2.2 g (by simp [blkC]), fun j b hj => ?_⟩⟩
 rw [Nat.zero_add]
 exact cell_in h hm (by simp [cellsB, hj])
theorem Line_ev {e : Ev} {items : Ws} {data : List UInt8} {cs : List Comp} {w : World} (hE : ∀ W, All cs W → En W) (hR : e.Rg) (hd : data.length = e.dik) (hil : items.length ≤ 140737488355328) (hI : ∀ W, All cs W → Rt W (.slice e.ria e.rik e.ric) items) (hD : ∀ W, All cs W → BRd W (.slice e.dia e.dik e.dic) data) (A : All cs w) :
   Calls Tryz.prog 11 #[.agg e.cells.toArray] w fun r w' => r = .returned (.tuple #[.string ⟨(e.line items data).toArray⟩, .int .i64 (e.err items)]) ∧ All cs w' :=
 Line_any e hE (fun hF => tp_of hF hR hd hil hI hD) (fun t _ => wdT_len _ _ _ t) (fun h => lenJ_words h hR hd) A
theorem shown_any {cs : List Comp} {w : World} (hE : ∀ W, All cs W → En W) (A : All cs w) : Calls Tryz.prog 9 #[] w fun r w' => r = .returned (.bool true) ∧ All cs w' := by
 have CA := hid (Line_ev (e := exA) (items := []) (data := []) hE exA_rg rfl (by simp) (fun W _ => Rt_nil W) (fun W _ => BRd_nil W) A)
 rw [exA_ok.1, exA_ok.2] at CA
 have CB : Hid (∀ W, All cs W → Calls Tryz.prog 14 #[.string ⟨#[115, 104, 101, 101, 116, 32, 48, 32, 56, 32, 49, 32, 48, 49, 48, 49, 48, 48, 48, 48, 48, 48]⟩] W fun r w' => ∃ (ra : Option Addr) (rn rc : Nat) (da : Option Addr) (dn dc : Nat) (os : List Comp), r = .returned (.tuple #[.agg (exB.cells2 (.slice ra rn rc) (.slice da dn dc)).toArray, .int .i64 0]) ∧ All (os ++ cs) w' ∧ ∀ W, All (os ++ cs) W → Rt W (.slice ra rn rc) [] ∧ BRd W (.slice da dn dc) daB) := hid (fun W hW => by
   have h := ReadBack_any (e := exB) (items := []) (data := daB) hE exB_ok.1 exB_rg rfl rfl hW
   rw [exB_ok.2] at h
   refine h.mono ?_
   rintro r w' ⟨rv, dv, os, hr, hA, hf⟩
   obtain ⟨ra, rc, e1⟩ := (hf _ hA).1.form
   obtain ⟨da, dc, e2⟩ := (hf _ hA).2.form
   subst e1 e2
   exact ⟨_, _, _, _, _, _, os, hr, hA, hf⟩)
 have BA : Hid (Tryz.prog.built 36 [(0, .int .i64 6), (1, .int .i64 1), (3, .int .i64 7), (6, .bool true), (8, .agg #[.int .i64 0, .int .i64 3, .int .i64 3, .string ⟨#[113]⟩, .string ⟨#[97, 32, 98]⟩, .int .i64 0, .int .i64 0])] = some exA.cells.toArray) := hid (by kernel_rfl)
 have CC : Hid (∀ (ra : Option Addr) (rn rc : Nat) (da : Option Addr) (dn dc : Nat) (os : List Comp) (g G : Nat) W, (∀ W, All (os ++ cs) W → Rt W (.slice ra rn rc) [] ∧ BRd W (.slice da dn dc) daB) → All (blkC g (cellsB daB) 5 :: blkC G (exB.cells2 (.slice ra rn rc) (.slice da dn dc)) 36 :: (os ++ cs)) W → Calls Tryz.prog 13 #[.agg (exB.cells2 (.slice ra rn rc) (.slice da dn dc)).toArray, .agg (exB.cells2 (.slice none 0 0) (.slice (some ⟨g, 0, none⟩) 5 5)).toArray] W fun r w' => r = .returned (.bool true) ∧ All cs w') := hid (fun ra rn rc da dn dc os g G W hf hW =>
   (sameEvent_true exB hW (fun V hV => (hf V hV.tail.tail).1) (fun V _ => Rt_nil V) (fun V hV => (hf V hV.tail.tail).2) (fun V hV => brd_blk (d := daB) hV (List.mem_cons_self)) (by simp) (by decide)).mono fun r w' h => ⟨h.1, dropA h.2.tail.tail⟩)
 have I36 : Hid (∀ (ra : Option Addr) (rn rc : Nat) (da : Option Addr) (dn dc : Nat), (Tryz.prog.info? 36).map (·.size) = some (exB.cells2 (.slice ra rn rc) (.slice da dn dc)).toArray.size) := hid (fun _ _ _ _ _ _ => by kernel_rfl)
 have O36 : Hid (∀ (ra : Option Addr) (rn rc : Nat) (da : Option Addr) (dn dc : Nat), (exB.cells2 (.slice ra rn rc) (.slice da dn dc)).toArray.all (·.oneCell') = true) := hid (fun _ _ _ _ _ _ => by kernel_rfl)
 clear hE A
 go_enter Tryz.func9, Tryz.ntmps9
 go_upto_region 4 with (go_at_call 11; refine CA.out.mono ?_; rintro r w1 ⟨rfl, B1⟩; have K1 := hid B1; clear B1)
 go_upto_region 5 with (first | (go_at_call 14; refine (CB.out _ K1.out).mono ?_; rintro r w2 ⟨ra, rn, rc, da, dn, dc, os, rfl, B2, F2⟩; have K2 := hid B2; have FF := hid F2; clear B2 F2) | (refine wpList_store_row rfl 36 _ _ rfl w2.heap.size (exB.cells2 (.slice ra rn rc) (.slice da dn dc)).toArray rfl rfl 36 _ (heap_alloc_new w2 _) (I36.out ra rn rc da dn dc) rfl (O36.out ra rn rc da dn dc) ?_; rw [World.setRow_alloc_new]))
 have K3 := hid (K2.out.addBlk (exB.cells2 (.slice ra rn rc) (.slice da dn dc)) 36)
 generalize w2.alloc (.cells (exB.cells2 (.slice ra rn rc) (.slice da dn dc)).toArray 36) = w3 at *
 have HB := hid (K3.out.blk (g := w2.heap.size) (vs := exB.cells2 (.slice ra rn rc) (.slice da dn dc)) (t := 36) (List.mem_cons_self))
 have K4 := hid (K3.out.addBlk (cellsB daB) 5)
 have C4 := hid (CC.out ra rn rc da dn dc os w3.heap.size w2.heap.size _ FF.out K4.out)
 go_wp2_with (first | (refine wpList_load_row rfl 36 _ rfl w2.heap.size rfl 36 (exB.cells2 (.slice ra rn rc) (.slice da dn dc)).toArray (0, 0) _ HB.out Tryz.underlying36 rfl (I36.out ra rn rc da dn dc) ?_) | (refine wpList_step (fun K hK => ?_); rw [if_pos (by rfl)]; refine wp_load_row 36 _ rfl w2.heap.size rfl 36 (exB.cells2 (.slice ra rn rc) (.slice da dn dc)).toArray (0, 0) _ HB.out Tryz.underlying36 rfl (I36.out ra rn rc da dn dc) (hK _ _ ?_); clear hK K) | (go_at_call 13; refine C4.out.mono ?_; rintro r w5 ⟨rfl, B5⟩; have K5 := hid B5; clear B5))
 go_ret
 exact ⟨rfl, K5.out⟩
set_option linter.unusedVariables false
set_option maxRecDepth 1000000
set_option maxHeartbeats 1600000
theorem drop_cons {l : List UInt8} {i : Nat} (hi : i < l.length) : l.drop i = l.getD i 0 :: l.drop (i + 1) := by
 rw [List.drop_eq_getElem_cons hi]
 simp [List.getD, hi]
theorem rNumber_any {l : List UInt8} {w : World} (hl : l.length ≤ 140737488355328) :
   Calls Tryz.prog 52 #[.string ⟨l.toArray⟩] w fun e w' => e = .returned (numA l) ∧ w' = w := by
 have hz : (⟨l.toArray⟩ : ByteArray).size = l.length := by simp [ByteArray.size]
 have IX : Hid (∀ k, k < l.length → ∀ W, (Instr.index 9 (.string ⟨l.toArray⟩) (.int .i64 (k : Int))).run Tryz.prog W = .ok (.int .u8 ((l.getD k 0).toNat : Int)) W) := fun k hk W => idx_at hk W
 by_cases h0 : l = []
 · subst h0
   have e1 : numA [] = .tuple #[.int .i64 0, .bool false] := rfl
   rw [e1]
   clear e1 IX
   rw [List.length_nil] at hz
   generalize ByteArray.mk ([] : List UInt8).toArray = L at *
   go_enter Tryz.func52, Tryz.ntmps52
   go_wp2
   go_ret2
   exact ⟨rfl, rfl⟩
 · have hpos : 0 < l.length := List.length_pos_iff.2 h0
   have hd0 : l.head? = some (l.getD 0 0) := by
     cases l with
     | nil => exact absurd rfl h0
     | cons a b => rfl
   have ix0 : ∀ W, (Instr.index 9 (.string ⟨l.toArray⟩) (.int .i64 0)).run Tryz.prog W = .ok (.int .u8 ((l.getD 0 0).toNat : Int)) W := IX.out 0 hpos
   have n0 : ((l.length : Int) == 0) = false := by simp; exact h0
   by_cases hz0 : 1 < l.length ∧ (l.getD 0 0).toNat = 48
   · obtain ⟨h1, h48⟩ := hz0
     have e1 : numA l = .tuple #[.int .i64 0, .bool false] := by
       have : numW l = none := by
         unfold numW
         rw [if_pos (Or.inr ⟨h1, by rw [hd0]; congr 1; exact UInt8.toNat_inj.1 h48⟩)]
       unfold numA; rw [this]; rfl
     rw [e1]
     rw [h48] at ix0
     have h1' : (1 : Int) < (l.length : Int) := by omega
     clear e1 IX hd0 h48 h0
     generalize ByteArray.mk l.toArray = L at *
     generalize l.length = n at *
     go_enter Tryz.func52, Tryz.ntmps52
     go_wp2
     go_ret2
     exact ⟨rfl, rfl⟩
   · have hnw : numW l = decN 0 (l.drop 0) := by
       unfold numW
       rw [if_neg, List.drop_zero]
       rintro (e | ⟨h1, h2⟩)
       · exact h0 e
       · rw [hd0] at h2
         simp only [Option.some.injEq] at h2
         exact hz0 ⟨h1, by rw [h2]; rfl⟩
     generalize hA : numA l = AN
     have HA : Hid (AN = .tuple #[.int .i64 (((decN 0 (l.drop 0)).getD 0 : Nat) : Int), .bool (decN 0 (l.drop 0)).isSome]) := hid (by rw [← hA]; unfold numA; rw [hnw])
     clear hA hnw hd0 h0
     obtain ⟨D, hD⟩ : ∃ D, D = decN 0 (l.drop 0) := ⟨_, rfl⟩
     rw [← hD] at HA
     have HD := hid hD
     clear hD
     generalize hx0 : (l.getD 0 0).toNat = x0 at *
     clear hx0
     generalize ByteArray.mk l.toArray = L at *
     generalize hn : l.length = n at *
     have HN := hid hn
     clear hn
     by_cases h1 : 1 < n
     · have h1' : (1 : Int) < (n : Int) := by omega
       have x48 : ((x0 : Int) == 48) = false := by
         have : x0 ≠ 48 := fun e => hz0 ⟨h1, e⟩
         simp; omega
       clear hz0
       go_enter Tryz.func52, Tryz.ntmps52
       go_wp2
       go_loopw [4, 5] (fun nv iv wr => ∃ (i a : Nat), i ≤ n ∧ a ≤ 9223372036854775807 ∧ iv = .int .i64 (i : Int) ∧ nv = .int .i64 (a : Int) ∧ wr = w ∧ Hid (D = decN a (l.drop i))) (fun _ iv _ => n - (intOf iv).toNat)
       case atStart => exact ⟨0, 0, by omega, by omega, rfl, rfl, rfl, HD⟩
       case round =>
         obtain ⟨i, a, hi, ha, rfl, rfl, rfl, hR⟩ := hrel
         clear HD
         by_cases hlt : i < n
         · have hlt' : (i : Int) < (n : Int) := by omega
           have ix := IX.out i hlt
           have dc := hid (drop_cons (l := l) (i := i) (by rw [HN.out]; exact hlt))
           generalize hb : l.getD i 0 = b at *
           clear hb
           have hb8 := b.toNat_lt
           by_cases hdg : 48 ≤ b.toNat ∧ b.toNat ≤ 57
           · have d1 : ¬ (b.toNat : Int) < 48 := by omega
             have d2 : ¬ (57 : Int) < (b.toNat : Int) := by omega
             by_cases hov : 10 * a + (b.toNat - 48) ≤ 9223372036854775807
             · have nx : Hid (D = decN (10 * a + (b.toNat - 48)) (l.drop (i + 1))) := hid (by rw [hR.out, dc.out, decN, if_pos hdg, if_pos hov])
               have hq : ¬ ((9223372036854775807 : Int) - ((b.toNat : Int) - 48)) / 10 < (a : Int) := by omega
               generalize b.toNat = x at *
               clear dc hR
               go_wp2
               go_roundw
               case rel => exact ⟨i + 1, 10 * a + (x - 48), by omega, by omega, by go_num, by congr 1; omega, trivial, nx⟩
               case measure => simp [intOf]; omega
             · have fin : Hid (D = none) := hid (by rw [hR.out, dc.out, decN, if_pos hdg, if_neg hov])
               have hq : ((9223372036854775807 : Int) - ((b.toNat : Int) - 48)) / 10 < (a : Int) := by omega
               generalize b.toNat = x at *
               clear dc hR hov
               go_wp2
               go_ret2
               exact ⟨by rw [HA.out, fin.out]; rfl, rfl⟩
           · have fin : Hid (D = none) := hid (by rw [hR.out, dc.out, decN, if_neg hdg])
             clear dc hR
             by_cases d1 : (b.toNat : Int) < 48
             · clear hdg
               go_wp2
               go_ret2
               exact ⟨by rw [HA.out, fin.out]; rfl, rfl⟩
             · have d2 : (57 : Int) < (b.toNat : Int) := by omega
               clear hdg
               go_wp2
               go_ret2
               exact ⟨by rw [HA.out, fin.out]; rfl, rfl⟩
         · have hlt' : ¬ (i : Int) < (n : Int) := by omega
           have fin : Hid (D = some a) := hid (by rw [hR.out, List.drop_eq_nil_of_le (by rw [HN.out]; omega), decN])
           clear hR
           go_wp2
           go_ret2
           exact ⟨by rw [HA.out, fin.out]; rfl, rfl⟩
     · have h1' : ¬ (1 : Int) < (n : Int) := by omega
       clear hz0
       go_enter Tryz.func52, Tryz.ntmps52
       go_wp2
       go_loopw [4, 5] (fun nv iv wr => ∃ (i a : Nat), i ≤ n ∧ a ≤ 9223372036854775807 ∧ iv = .int .i64 (i : Int) ∧ nv = .int .i64 (a : Int) ∧ wr = w ∧ Hid (D = decN a (l.drop i))) (fun _ iv _ => n - (intOf iv).toNat)
       case atStart => exact ⟨0, 0, by omega, by omega, rfl, rfl, rfl, HD⟩
       case round =>
         obtain ⟨i, a, hi, ha, rfl, rfl, rfl, hR⟩ := hrel
         clear HD
         by_cases hlt : i < n
         · have hlt' : (i : Int) < (n : Int) := by omega
           have ix := IX.out i hlt
           have dc := hid (drop_cons (l := l) (i := i) (by rw [HN.out]; exact hlt))
           generalize hb : l.getD i 0 = b at *
           clear hb
           have hb8 := b.toNat_lt
           by_cases hdg : 48 ≤ b.toNat ∧ b.toNat ≤ 57
           · have d1 : ¬ (b.toNat : Int) < 48 := by omega
             have d2 : ¬ (57 : Int) < (b.toNat : Int) := by omega
             by_cases hov : 10 * a + (b.toNat - 48) ≤ 9223372036854775807
             · have nx : Hid (D = decN (10 * a + (b.toNat - 48)) (l.drop (i + 1))) := hid (by rw [hR.out, dc.out, decN, if_pos hdg, if_pos hov])
               have hq : ¬ ((9223372036854775807 : Int) - ((b.toNat : Int) - 48)) / 10 < (a : Int) := by omega
               generalize b.toNat = x at *
               clear dc hR
               go_wp2
               go_roundw
               case rel => exact ⟨i + 1, 10 * a + (x - 48), by omega, by omega, by go_num, by congr 1; omega, trivial, nx⟩
               case measure => simp [intOf]; omega
             · have fin : Hid (D = none) := hid (by rw [hR.out, dc.out, decN, if_pos hdg, if_neg hov])
               have hq : ((9223372036854775807 : Int) - ((b.toNat : Int) - 48)) / 10 < (a : Int) := by omega
               generalize b.toNat = x at *
               clear dc hR hov
               go_wp2
               go_ret2
               exact ⟨by rw [HA.out, fin.out]; rfl, rfl⟩
           · have fin : Hid (D = none) := hid (by rw [hR.out, dc.out, decN, if_neg hdg])
             clear dc hR
             by_cases d1 : (b.toNat : Int) < 48
             · clear hdg
               go_wp2
               go_ret2
               exact ⟨by rw [HA.out, fin.out]; rfl, rfl⟩
             · have d2 : (57 : Int) < (b.toNat : Int) := by omega
               clear hdg
               go_wp2
               go_ret2
               exact ⟨by rw [HA.out, fin.out]; rfl, rfl⟩
         · have hlt' : ¬ (i : Int) < (n : Int) := by omega
           have fin : Hid (D = some a) := hid (by rw [hR.out, List.drop_eq_nil_of_le (by rw [HN.out]; omega), decN])
           clear hR
           go_wp2
           go_ret2
           exact ⟨by rw [HA.out, fin.out]; rfl, rfl⟩
set_option linter.unusedVariables false
set_option maxRecDepth 1000000
set_option maxHeartbeats 1600000
abbrev rdB (R : Nat) (s : Value) (k : Nat) (x : Int) : Comp := blkC R [s, .int .i64 (k : Int), .int .i64 x] 130
def flE (x e : Int) : Int := if x = 0 then e else x
def dW (l : Ws) (k : Nat) (x : Int) : List UInt8 := if x ≠ 0 then [] else l.getD k []
def dK (l : Ws) (k : Nat) (x : Int) : Nat := if x ≠ 0 then k else if l.length ≤ k then k else k + 1
def dX (l : Ws) (k : Nat) (x : Int) : Int := if x ≠ 0 then x else if l.length ≤ k then 190 else 0
theorem rfail_any {R : Nat} {s : Value} {k : Nat} {x e : Int} {cs : List Comp} {w : World} (A : All (rdB R s k x :: cs) w) :
   Calls Tryz.prog 75 #[.pointer (some ⟨R, 0, none⟩), .int .i64 e] w fun r w' => r = .returned (.tuple #[]) ∧ All (rdB R s k (flE x e) :: cs) w' := by
 have c2 : w.cell? ⟨R, 2, none⟩ = some (.int .i64 x) := cell_in A List.mem_cons_self rfl
 have f2 := free_at (A.blk List.mem_cons_self) 2
 by_cases hx : x = 0
 · subst hx
   have K := hid (A.setBlk 2 (.int .i64 e))
   clear A
   go_enter Tryz.func75, Tryz.ntmps75
   go_wp2
   go_end0
   exact ⟨rfl, K.out⟩
 · have hx' : (x == 0) = false := by simpa using hx
   have K := hid A
   have e1 : flE x e = x := by unfold flE; rw [if_neg hx]
   rw [e1]
   clear A e1
   go_enter Tryz.func75, Tryz.ntmps75
   go_wp2
   go_end0
   exact ⟨rfl, K.out⟩
theorem rword_any {R : Nat} {s : Value} {l : Ws} {k : Nat} {x : Int} {cs : List Comp} {w : World} (hk : k ≤ l.length) (hl : l.length ≤ 140737488355328) (hS : ∀ W, All cs W → Rt W s l) (A : All (rdB R s k x :: cs) w) :
   Calls Tryz.prog 107 #[.pointer (some ⟨R, 0, none⟩)] w fun r w' => r = .returned (.string ⟨(dW l k x).toArray⟩) ∧ All (rdB R s (dK l k x) (dX l k x) :: cs) w' := by
 have c2 : w.cell? ⟨R, 2, none⟩ = some (.int .i64 x) := cell_in A List.mem_cons_self rfl
 by_cases hx : x = 0
 rotate_left
 · have hx' : (x != 0) = true := by simpa using hx
   have e1 : dW l k x = [] := by unfold dW; rw [if_pos hx]
   have e2 : dK l k x = k := by unfold dK; rw [if_pos hx]
   have e3 : dX l k x = x := by unfold dX; rw [if_pos hx]
   rw [e1, e2, e3]
   have K := hid A
   clear A e1 e2 e3 hS hk hl
   go_enter Tryz.func107, Tryz.ntmps107
   go_wp2
   go_ret
   exact ⟨rfl, K.out⟩
 subst hx
 obtain ⟨ao, c, rfl⟩ := (hS w A.tail).form
 have A1 := hid A.drew
 have d0 := cell_in A1.out (P := R) (t := 130) (o := 0) List.mem_cons_self rfl
 have d1 := cell_in A1.out (P := R) (t := 130) (o := 1) List.mem_cons_self rfl
 by_cases hlt : l.length ≤ k
 · have hkl : ((l.length : Int) ≤ (k : Int)) := by omega
   have e1 : dW l k 0 = [] := by unfold dW; simp [List.getD, hlt]
   have e2 : dK l k 0 = k := by unfold dK; simp [hlt]
   have e3 : dX l k 0 = flE 0 190 := by unfold dX flE; simp [hlt]
   rw [e1, e2, e3]
   have CF := hid (rfail_any (e := 190) A1.out)
   clear A e1 e2 e3 hS hk hl hlt
   generalize l.length = n at *
   go_enter Tryz.func107, Tryz.ntmps107
   go_upto_region 3 with fail
   go_region
   go_wp2_with (go_at_call 75; refine CF.out.mono ?_; rintro r w2 ⟨rfl, B2⟩; have K := hid B2; clear B2)
   go_ret
   exact ⟨rfl, K.out⟩
 · have hkl : ¬ ((l.length : Int) ≤ (k : Int)) := by omega
   have e1 : dW l k 0 = l.getD k [] := by unfold dW; simp
   have e2 : dK l k 0 = k + 1 := by unfold dK; simp [hlt]
   have e3 : dX l k 0 = 0 := by unfold dX; simp [hlt]
   rw [e1, e2, e3]
   have f1 := free_at (A1.out.blk List.mem_cons_self) 1
   have A3 := hid (A.setBlk 1 (.int .i64 ((k : Int) + 1))).drew.drew
   obtain ⟨g, o, rfl, hg, x3⟩ := (hS _ A3.out.tail).at (j := k) (by omega)
   have y0 := cell_in A3.out (P := R) (t := 130) (o := 0) List.mem_cons_self rfl
   have y1 := cell_in A3.out (P := R) (t := 130) (o := 1) List.mem_cons_self rfl
   have A4 : Hid (All (rdB R (.slice (some ⟨g, o, none⟩) l.length c) (k + 1) 0 :: cs) (w.setCell ⟨R, 1, none⟩ (.int .i64 ((k : Int) + 1))).drew.drew) := hid A3.out
   have hlt' : (k : Int) < (l.length : Int) := by omega
   clear A e1 e2 e3 hS hk A3
   generalize l.length = n at *
   go_enter Tryz.func107, Tryz.ntmps107
   go_upto_region 3 with fail
   go_region
   go_upto_region 7 with fail
   go_region
   go_wp2
   go_ret
   exact ⟨rfl, A4.out⟩
theorem dW_len {l : Ws} {k : Nat} {x : Int} (h : ∀ y ∈ l, y.length ≤ 140737488355328) : (dW l k x).length ≤ 140737488355328 := by
 unfold dW
 split
 · simp
 · by_cases hk : k < l.length
   · have : l.getD k [] = l[k] := by simp [List.getD, hk]
     rw [this]; exact h _ (List.getElem_mem hk)
   · have : l.getD k [] = [] := by simp [List.getD, Nat.le_of_not_lt hk]
     rw [this]; simp
theorem dK_le {l : Ws} {k : Nat} {x : Int} (h : k ≤ l.length) : dK l k x ≤ l.length := by
 unfold dK
 split
 · exact h
 · split <;> omega
def dN (l : Ws) (k : Nat) (x : Int) : Int := (((numW (dW l k x)).getD 0 : Nat) : Int)
def dNX (l : Ws) (k : Nat) (x : Int) : Int := if (numW (dW l k x)).isSome then dX l k x else flE (dX l k x) 190
theorem rnumber_any {R : Nat} {s : Value} {l : Ws} {k : Nat} {x : Int} {cs : List Comp} {w : World} (hk : k ≤ l.length) (hl : l.length ≤ 140737488355328) (hs : ∀ y ∈ l, y.length ≤ 140737488355328) (hS : ∀ W, All cs W → Rt W s l) (A : All (rdB R s k x :: cs) w) :
   Calls Tryz.prog 108 #[.pointer (some ⟨R, 0, none⟩)] w fun r w' => r = .returned (.int .i64 (dN l k x)) ∧ All (rdB R s (dK l k x) (dNX l k x) :: cs) w' := by
 have CW := hid (rword_any hk hl hS A)
 have CN := hid (fun W => rNumber_any (w := W) (dW_len (k := k) (x := x) hs))
 have CF := hid (fun W (h : All (rdB R s (dK l k x) (dX l k x) :: cs) W) => rfail_any (e := 190) h)
 unfold numA at CN
 by_cases hn : (numW (dW l k x)).isSome = true
 · have e1 : dNX l k x = dX l k x := by unfold dNX; rw [if_pos hn]
   rw [e1]
   rw [hn] at CN
   unfold dN
   clear A hS hs hk hl e1 CF hn
   generalize (((numW (dW l k x)).getD 0 : Nat) : Int) = V at *
   generalize dW l k x = X at *
   generalize dK l k x = K' at *
   generalize dX l k x = X' at *
   go_enter Tryz.func108, Tryz.ntmps108
   go_wp2_with (first | (go_at_call 107; refine CW.out.mono ?_; rintro r w1 ⟨rfl, B1⟩; have K1 := hid B1; clear B1) | (go_at_call 52; refine (CN.out _).mono ?_; rintro r w2 ⟨rfl, rfl⟩))
   go_ret
   exact ⟨rfl, K1.out⟩
 · have hn' : (numW (dW l k x)).isSome = false := by simpa using hn
   have hz : dN l k x = 0 := by unfold dN; rw [Option.isSome_eq_false_iff, Option.isNone_iff_eq_none] at hn'; rw [hn']; rfl
   have e1 : dNX l k x = flE (dX l k x) 190 := by unfold dNX; rw [if_neg hn]
   rw [e1, hz]
   rw [hn'] at CN
   clear A hS hs hk hl e1 hn hn' hz
   generalize (((numW (dW l k x)).getD 0 : Nat) : Int) = V at *
   generalize dW l k x = X at *
   generalize dK l k x = K' at *
   generalize dX l k x = X' at *
   go_enter Tryz.func108, Tryz.ntmps108
   go_wp2_with (first | (go_at_call 107; refine CW.out.mono ?_; rintro r w1 ⟨rfl, B1⟩; have K1 := hid B1; clear B1) | (go_at_call 52; refine (CN.out _).mono ?_; rintro r w2 ⟨rfl, rfl⟩) | (go_at_call 75; refine (CF.out _ K1.out).mono ?_; rintro r w3 ⟨rfl, B3⟩; have K3 := hid B3; clear B3))
   go_ret
   exact ⟨rfl, K3.out⟩
set_option linter.unusedVariables false
set_option maxRecDepth 1000000
set_option maxHeartbeats 1600000
theorem indexT_any {v : Value} {l : Ws} {x : List UInt8} {w : World} {f : Nat} (h : Rt w v l) (hl : l.length ≤ 140737488355328) (hf : f ≤ l.length) :
   Calls Tryz.prog 152 #[v, .int .i64 (f : Int), .string ⟨x.toArray⟩] w fun e w' => e = .returned (.int .i64 (idxI (findW x f (l.drop f)))) ∧ w' = w := by
 obtain ⟨ao, c, rfl⟩ := h.form
 have HS := hid h
 have EQ : Hid (∀ k, ((⟨(l.getD k []).toArray⟩ : ByteArray).toList == (⟨x.toArray⟩ : ByteArray).toList) = decide (l.getD k [] = x)) := hid (fun k => ba_ne)
 have FA : Hid (∀ k, k < l.length → findW x k (l.drop k) = if l.getD k [] = x then some k else findW x (k + 1) (l.drop (k + 1))) := hid (fun k hk => findW_at hk)
 have FE : Hid (findW x l.length (l.drop l.length) = none) := hid (by rw [List.drop_length]; rfl)
 generalize hA : findW x f (l.drop f) = A
 have HA := hid hA
 clear hA h
 generalize hn : l.length = n at *
 have HN := hid hn
 clear hn
 generalize hX : ByteArray.mk x.toArray = X at *
 go_enter Tryz.func152, Tryz.ntmps152
 go_wp2
 go_loopw [7] (fun iv wr => ∃ k : Nat, k ≤ n ∧ iv = .int .i64 (k : Int) ∧ wr = w ∧ Hid (findW x k (l.drop k) = A)) (fun iv _ => n - (intOf iv).toNat)
 case atStart => exact ⟨f, hf, rfl, rfl, HA⟩
 case round =>
   obtain ⟨k, hk, rfl, rfl, hR⟩ := hrel
   clear HA
   by_cases hlt : k < n
   · have hlt' : (k : Int) < (n : Int) := by omega
     obtain ⟨g, o, rfl, _, h1⟩ := HS.out.at (j := k) (by rw [HN.out]; exact hlt)
     have eq := EQ.out k
     by_cases hx : l.getD k [] = x
     · rw [decide_eq_true hx] at eq
       have fin : Hid (A = some k) := hid (by rw [← hR.out, FA.out k hlt, if_pos hx])
       generalize ByteArray.mk (l.getD k []).toArray = Y at *
       clear hx
       go_wp2
       go_ret
       exact ⟨by rw [fin.out]; rfl, rfl⟩
     · rw [decide_eq_false hx] at eq
       have nx : Hid (findW x (k + 1) (l.drop (k + 1)) = A) := hid (by rw [← hR.out, FA.out k hlt, if_neg hx])
       generalize ByteArray.mk (l.getD k []).toArray = Y at *
       clear hx
       go_wp2
       go_roundw
       case rel => exact ⟨k + 1, by omega, by go_num, trivial, nx⟩
       case measure => simp [intOf]; omega
   · have hlt' : ¬ (k : Int) < (n : Int) := by omega
     have ek : k = n := by omega
     have fin : Hid (A = none) := hid (by rw [← hR.out, ek]; exact FE.out)
     clear ek
     go_wp2
     go_ret
     exact ⟨by rw [fin.out]; rfl, rfl⟩
end Go.Proofs.YtfeppannfcbakaaGreatDoor
