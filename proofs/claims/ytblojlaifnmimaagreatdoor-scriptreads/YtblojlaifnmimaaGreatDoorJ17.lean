import Derived.Test.YtblojlaifnmimaaGreatDoorSa
import Derived.Deep.WholeRow
namespace Go.Proofs.YtblojlaifnmimaaGreatDoor
open Go.RowKit
set_option linter.unusedVariables false

theorem All.setRow {g : Nat} {vs vs' : List Value} {t : TypeId} {cs : List Comp} {w : World} (h : All (blkC g vs t :: cs) w) : All (blkC g vs' t :: cs) (w.setRow g vs'.toArray) := by
  have hg : w.heap[g]? = some (.cells vs.toArray t (0, 0)) := h.1.2.1
  refine h.turn ⟨rfl, rfl, rfl, by simp [World.setRow], fun k hk hn => ?_⟩ (blkC_good _ _ _) (setRow_heap w g _ _ t (0, 0) hg) (fun k hk => Or.inl hk) (fun k hk => ?_)
  · exact setRow_other w g k _ (by simpa [blkC] using hn)
  · have : k = g := by simpa [blkC] using hk
    subst this
    simpa [World.setRow] using h.1.2.2 k (by simp [blkC])
theorem Tryz.i43 : (Tryz.prog.info? 43).map (·.size) = some 10 := by kernel_rfl
theorem Tryz.i24 : (Tryz.prog.info? 24).map (·.size) = some 10 := by kernel_rfl
theorem Tryz.i27 : (Tryz.prog.info? 27).map (·.size) = some 11 := by kernel_rfl
theorem Tryz.i41 : (Tryz.prog.info? 41).map (·.size) = some 5 := by kernel_rfl
abbrev spV (s : Sp) : Value := .agg s.vals.toArray
theorem sp_one (s : Sp) : s.vals.toArray.all (·.oneCell') = true := all_oneCell_toArray s.one
theorem ld43 {w : World} {b : Nat} {C : Array Value} (hg : w.heap[b]? = some (.cells C 43 (0, 0))) (hl : C.size = 10) : (loadVar 43 ⟨b, 0, none⟩).run Tryz.prog w = .ok (.agg C) w := run_loadVar_row w b 43 43 C (0, 0) _ hg Tryz.underlying43 rfl (by rw [Tryz.i43, hl])
theorem ld24 {w : World} {b : Nat} {C : Array Value} (hg : w.heap[b]? = some (.cells C 24 (0, 0))) (hl : C.size = 10) : (loadVar 24 ⟨b, 0, none⟩).run Tryz.prog w = .ok (.agg C) w := run_loadVar_row w b 24 24 C (0, 0) _ hg Tryz.underlying24 rfl (by rw [Tryz.i24, hl])
theorem ld27 {w : World} {b : Nat} {C : Array Value} (hg : w.heap[b]? = some (.cells C 27 (0, 0))) (hl : C.size = 11) : (loadVar 27 ⟨b, 0, none⟩).run Tryz.prog w = .ok (.agg C) w := run_loadVar_row w b 27 27 C (0, 0) _ hg Tryz.underlying27 rfl (by rw [Tryz.i27, hl])
theorem ret2 {fn : Func} {t : TypeId} {i j b : Nat} {C : Array Value} {e : Value} {R : Ending → World → Prop} {a : Act} {w : World} (hf : fn.results = #[.cell i t, .tmp j]) (ht : a.tmps.getD i undef = ptr b) (he : a.tmps.getD j undef = e) (hL : (loadVar t ⟨b, 0, none⟩).run Tryz.prog w = .ok (.agg C) w) (hdf : a.defers = []) (hR : R (.returned (.tuple #[.agg C, e])) w) : bodyPost Tryz.prog fn R .ret a w := by
  refine bodyPost_ret (v := .tuple #[.agg C, e]) ?_ hdf hR
  have hp : a.tmps[i]?.getD undef = ptr b := by rw [← ht]; simp
  have hp3 : a.tmps[j]?.getD undef = e := by rw [← he]; simp
  simp [results, hf, hp, hp3, asAddr, hL]
theorem ret3 {fn : Func} {t : TypeId} {i j k b : Nat} {C : Array Value} {e f : Value} {R : Ending → World → Prop} {a : Act} {w : World} (hf : fn.results = #[.cell i t, .tmp j, .tmp k]) (ht : a.tmps.getD i undef = ptr b) (he : a.tmps.getD j undef = e) (he2 : a.tmps.getD k undef = f) (hL : (loadVar t ⟨b, 0, none⟩).run Tryz.prog w = .ok (.agg C) w) (hdf : a.defers = []) (hR : R (.returned (.tuple #[.agg C, e, f])) w) : bodyPost Tryz.prog fn R .ret a w := by
  refine bodyPost_ret (v := .tuple #[.agg C, e, f]) ?_ hdf hR
  have hp : a.tmps[i]?.getD undef = ptr b := by rw [← ht]; simp
  have hp3 : a.tmps[j]?.getD undef = e := by rw [← he]; simp
  have hp4 : a.tmps[k]?.getD undef = f := by rw [← he2]; simp
  simp [results, hf, hp, hp3, hp4, asAddr, hL]

/-- A step with the op that the words are. -/
def wOp (s : Sp) (ws : Ws) : Sp × Int := if (readO ws).e ≠ 0 then (.zero, (readO ws).e) else if (readO ws).k < ws.length then (.zero, 171) else ({ s with o := (readO ws).o.toI }, 0)
def SPost (p : Sp × Int) (cs : List Comp) (e : Ending) (w' : World) : Prop := e = .returned (.tuple #[spV p.1, .int .i64 p.2]) ∧ All cs w'
def zv : List Value := Sp.zero.vals
theorem blk_at {B j : Nat} {vs : List Value} {t : TypeId} {cs : List Comp} {w : World} {u : Value} (h : All cs w) (hm : blkC B vs t ∈ cs) (hu : vs[j]? = some u) : w.cell? ⟨B, j, none⟩ = some u ∧ w.frozen? ⟨B, j, none⟩ = false ∧ B < w.heap.size := by
  have hb := (h.mem hm).2.1
  exact ⟨by rw [cell_at hb]; simpa using hu, free_at hb j, (h.mem hm).2.2 B (by simp [blkC])⟩

set_option maxHeartbeats 1600000 in
set_option maxRecDepth 1000000 in
theorem withOp_any {s : Sp} {v : Value} {l : Ws} {cs : List Comp} {w : World} (A : All cs w) (hR : ∀ W, All cs W → Rt W v l) (hE : ∀ W, All cs W → En W) (hl : l.length ≤ 140737488355328) (hs : ∀ x ∈ l, x.length ≤ 140737488355328) :
    Calls Tryz.prog 96 #[spV s, v] w (SPost (wOp s l) cs) := by
  obtain ⟨ao, c, rfl⟩ := (hR w A).form
  have A0 := hid ((A.addBlk s.vals 43).addBlk zv 43)
  have C := hid (ReadOp_any A0.out (fun W h => hR W h.tail.tail) (fun W h => (hE W h.tail.tail).v) (fun W h => (hE W h.tail.tail).t) (fun W h => (hE W h.tail.tail).f) hl hs)
  have esz : (w.alloc (.cells s.vals.toArray 43)).heap.size = w.heap.size + 1 := by simp
  rw [esz] at A0 C
  unfold ROPost at C
  have ONE := hid (sp_one s)
  have IS : Hid ((Tryz.prog.info? 43).map (·.size) = some s.vals.toArray.size) := hid Tryz.i43
  have I5 : Hid ((Tryz.prog.info? 43).map (·.size) = some (Sp.vals { s with o := (readO l).o.toI }).toArray.size) := hid Tryz.i43
  have O5 := hid (sp_one { s with o := (readO l).o.toI })
  have IZ : Hid ((Tryz.prog.info? 43).map (·.size) = some zv.toArray.size) := hid Tryz.i43
  have OZ : Hid (zv.toArray.all (·.oneCell') = true) := hid (sp_one .zero)
  unfold SPost wOp spV
  clear A hR hE hl hs esz
  by_cases he : (readO l).e ≠ 0
  · have he' : ((readO l).e != 0) = true := by simpa using he
    simp only [if_pos he]
    clear he
    generalize (readO l).e = E at *
    generalize (readO l).k = K at *
    generalize (readO l).o.k = OK at *
    generalize ByteArray.mk (readO l).o.nm.toArray = X1 at *
    generalize ByteArray.mk (readO l).o.tx.toArray = X2 at *
    generalize (readO l).o.n = ON at *
    generalize (readO l).o.m = OM at *
    generalize l.length = n at *
    clear I5 O5
    generalize s.vals = SV at *
    have ez : zv.toArray = #[.int .i64 0, .int .i64 0, .int .i64 0, .int .i64 0, .int .i64 0, .int .i64 0, .string ⟨#[]⟩, .string ⟨#[]⟩, .int .i64 0, .int .i64 0] := rfl
    go_enter Tryz.func96, Tryz.ntmps96
    rw [ez] at C
    go_wp2_with (go_at_call 118; refine C.out.mono ?_; rintro e w1 ⟨rfl, A1⟩; have K1 := hid (A1.alloc (.cells #[.int .i64 OK, .string X1, .string X2, .int .i64 (ON : Int), .int .i64 (OM : Int)] 41)); clear A1; refine Hid.out ?_)
    refine hid ?_
    clear C A0
    have H1 := hid (K1.out.1.2.1)
    have A4 := hid (K1.out.setRow (vs' := zv))
    go_wp2_with (first | (refine wpList_build rfl 43 _ rfl (by kernel_rfl) ?_) | (refine wpList_store_row rfl 43 _ _ rfl (w.heap.size + 1) zv.toArray rfl (by kernel_rfl) 43 _ H1.out IZ.out rfl OZ.out ?_))
    refine ret2 rfl rfl rfl (ld43 A4.out.1.2.1 rfl) rfl ?_
    exact ⟨rfl, A4.out.tail.tail⟩
  · have h0 : (readO l).e = 0 := Classical.byContradiction he
    rw [h0] at C
    simp only [if_neg he]
    clear he
    by_cases hk : (readO l).k < l.length
    · have hk' : ((readO l).k : Int) < (l.length : Int) := by omega
      simp only [if_pos hk]
      clear hk h0
      generalize (readO l).k = K at *
      generalize (readO l).o.k = OK at *
      generalize ByteArray.mk (readO l).o.nm.toArray = X1 at *
      generalize ByteArray.mk (readO l).o.tx.toArray = X2 at *
      generalize (readO l).o.n = ON at *
      generalize (readO l).o.m = OM at *
      generalize l.length = n at *
      clear I5 O5
      generalize s.vals = SV at *
      have ez : zv.toArray = #[.int .i64 0, .int .i64 0, .int .i64 0, .int .i64 0, .int .i64 0, .int .i64 0, .string ⟨#[]⟩, .string ⟨#[]⟩, .int .i64 0, .int .i64 0] := rfl
      go_enter Tryz.func96, Tryz.ntmps96
      rw [ez] at C
      go_wp2_with (go_at_call 118; refine C.out.mono ?_; rintro e w1 ⟨rfl, A1⟩; have K1 := hid (A1.alloc (.cells #[.int .i64 OK, .string X1, .string X2, .int .i64 (ON : Int), .int .i64 (OM : Int)] 41)); clear A1; refine Hid.out ?_)
      refine hid ?_
      clear C A0
      have H1 := hid (K1.out.1.2.1)
      have A4 := hid (K1.out.setRow (vs' := zv))
      go_wp2_with (first | (refine wpList_build rfl 43 _ rfl (by kernel_rfl) ?_) | (refine wpList_store_row rfl 43 _ _ rfl (w.heap.size + 1) zv.toArray rfl (by kernel_rfl) 43 _ H1.out IZ.out rfl OZ.out ?_))
      refine ret2 rfl rfl rfl (ld43 A4.out.1.2.1 rfl) rfl ?_
      exact ⟨rfl, A4.out.tail.tail⟩
    · have hk' : ¬ ((readO l).k : Int) < (l.length : Int) := by omega
      simp only [if_neg hk]
      clear hk h0
      have ET : Hid (Sp.vals { s with o := (readO l).o.toI } = [.int .i64 s.k, .int .i64 s.a, .int .i64 s.b, .int .i64 s.x, .int .i64 s.y, .int .i64 (readO l).o.k, .string ⟨(readO l).o.nm.toArray⟩, .string ⟨(readO l).o.tx.toArray⟩, .int .i64 ((readO l).o.n : Int), .int .i64 ((readO l).o.m : Int)]) := hid rfl
      have ES : Hid (s.vals = [.int .i64 s.k, .int .i64 s.a, .int .i64 s.b, .int .i64 s.x, .int .i64 s.y, .int .i64 s.o.k, .string ⟨s.o.nm.toArray⟩, .string ⟨s.o.tx.toArray⟩, .int .i64 s.o.n, .int .i64 s.o.m]) := hid rfl
      generalize hTV : Sp.vals { s with o := (readO l).o.toI } = TV at *
      clear hTV
      generalize (readO l).k = K at *
      generalize (readO l).o.k = OK at *
      generalize ByteArray.mk (readO l).o.nm.toArray = X1 at *
      generalize ByteArray.mk (readO l).o.tx.toArray = X2 at *
      generalize (readO l).o.n = ON at *
      generalize (readO l).o.m = OM at *
      generalize l.length = n at *
      have TL : Hid (TV.length = 10) := hid (by rw [ET.out]; rfl)
      generalize hSV : s.vals = SV at *
      clear hSV
      have ez : zv.toArray = #[.int .i64 0, .int .i64 0, .int .i64 0, .int .i64 0, .int .i64 0, .int .i64 0, .string ⟨#[]⟩, .string ⟨#[]⟩, .int .i64 0, .int .i64 0] := rfl
      go_enter Tryz.func96, Tryz.ntmps96
      rw [ez] at C
      go_upto_region 6 with (go_at_call 118; refine C.out.mono ?_; rintro e w1 ⟨rfl, A1⟩; have K1 := hid (A1.addBlk [.int .i64 OK, .string X1, .string X2, .int .i64 (ON : Int), .int .i64 (OM : Int)] 41); clear A1)
      clear C A0
      have esz : w1.heap.size = w1.heap.size := rfl
      generalize hG : w1.heap.size = G at *
      generalize hW : w1.alloc (.cells #[.int .i64 OK, .string X1, .string X2, .int .i64 (ON : Int), .int .i64 (OM : Int)] 41) = w2 at *
      clear hW hG esz
      have HG := hid K1.out.1.2.1
      have A3 := hid (K1.out.perm (perm3a _ _ _ _))
      have A4 := hid (((((A3.out.setBlk 5 (.int .i64 OK)).setBlk 6 (.string X1)).setBlk 7 (.string X2)).setBlk 8 (.int .i64 (ON : Int))).setBlk 9 (.int .i64 (OM : Int)))
      have TH : Hid (w2.there w.heap.size 5 (#[.int .i64 OK, .string X1, .string X2, .int .i64 (ON : Int), .int .i64 (OM : Int)] : Array Value).size) := hid (fun j hj => by
        have hb := A3.out.1.2.1
        refine ⟨?_, free_at hb _⟩
        rw [cell_at hb, ES.out]
        have hj' : j < 5 := hj
        obtain rfl | rfl | rfl | rfl | rfl : j = 0 ∨ j = 1 ∨ j = 2 ∨ j = 3 ∨ j = 4 := by omega
        all_goals rfl)
      have ET2 : Hid (((((SV.set 5 (.int .i64 OK)).set 6 (.string X1)).set 7 (.string X2)).set 8 (.int .i64 (ON : Int))).set 9 (.int .i64 (OM : Int)) = TV) := hid (by rw [ET.out, ES.out]; rfl)
      rw [ET2.out] at A4
      have A5 : Hid (All (blkC w.heap.size TV 43 :: blkC G [.int .i64 OK, .string X1, .string X2, .int .i64 (ON : Int), .int .i64 (OM : Int)] 41 :: blkC (w.heap.size + 1) zv 43 :: cs) (w2.setCells w.heap.size 5 (#[.int .i64 OK, .string X1, .string X2, .int .i64 (ON : Int), .int .i64 (OM : Int)] : Array Value).toList)) := A4
      clear A4 A3 K1
      generalize hW3 : w2.setCells w.heap.size 5 (#[.int .i64 OK, .string X1, .string X2, .int .i64 (ON : Int), .int .i64 (OM : Int)] : Array Value).toList = w3 at A5
      have HW3 := hid hW3
      clear hW3
      have HT := hid A5.out.1.2.1
      have A6 := hid (A5.out.perm (perm3a _ _ _ _))
      have HZ := hid A6.out.1.2.1
      have A7 := hid (A6.out.setRow (vs' := TV))
      have O41 : Hid ((#[.int .i64 OK, .string X1, .string X2, .int .i64 (ON : Int), .int .i64 (OM : Int)] : Array Value).all (·.oneCell') = true) := hid (by simp [Value.oneCell'])
      have ZT : Hid (zv.toArray.size = TV.toArray.size) := hid (by show 10 = TV.toArray.size; rw [List.size_toArray, TL.out])
      go_upto_region 7 with (first | (refine wpList_load_row rfl 41 _ rfl G rfl 41 #[.int .i64 OK, .string X1, .string X2, .int .i64 (ON : Int), .int .i64 (OM : Int)] (0, 0) _ HG.out Tryz.underlying41 rfl Tryz.i41 ?_) | (refine wpList_store_mid rfl 41 _ _ rfl w.heap.size 5 #[.int .i64 OK, .string X1, .string X2, .int .i64 (ON : Int), .int .i64 (OM : Int)] rfl rfl TH.out Tryz.i41 O41.out ?_))
      rw [HW3.out]
      go_wp2_with (first | (refine wpList_load_row rfl 43 _ rfl w.heap.size rfl 43 TV.toArray (0, 0) _ HT.out Tryz.underlying43 rfl I5.out ?_) | (refine wpList_store_row rfl 43 _ _ rfl (w.heap.size + 1) TV.toArray rfl rfl 43 _ HZ.out I5.out ZT.out O5.out ?_))
      refine ret2 rfl rfl rfl (ld43 A7.out.1.2.1 (by rw [List.size_toArray, TL.out])) rfl ?_
      exact ⟨rfl, A7.out.tail.tail.tail⟩
end Go.Proofs.YtblojlaifnmimaaGreatDoor

namespace Go.Proofs.YtblojlaifnmimaaGreatDoor
open Go.RowKit
set_option linter.unusedVariables false

theorem sN_at {k : Nat} (h : k < 14) : sN.getD k [] = snN k := by
  obtain rfl | rfl | rfl | rfl | rfl | rfl | rfl | rfl | rfl | rfl | rfl | rfl | rfl | rfl : k = 0 ∨ k = 1 ∨ k = 2 ∨ k = 3 ∨ k = 4 ∨ k = 5 ∨ k = 6 ∨ k = 7 ∨ k = 8 ∨ k = 9 ∨ k = 10 ∨ k = 11 ∨ k = 12 ∨ k = 13 := by omega
  all_goals rfl
theorem slN_in {k : Nat} {x : UInt8} (h : x ∈ slN k) : x.toNat = 65 ∨ x.toNat = 75 ∨ x.toNat = 88 ∨ x.toNat = 89 ∨ x.toNat = 79 := by
  have key : ∀ p ∈ sfN, ∀ x ∈ p.2, x.toNat = 65 ∨ x.toNat = 75 ∨ x.toNat = 88 ∨ x.toNat = 89 ∨ x.toNat = 79 := by decide
  unfold slN at h
  by_cases hk : k < sfN.length
  · rw [List.getD, List.getElem?_eq_getElem hk] at h
    exact key _ (List.getElem_mem hk) x h
  · rw [List.getD, List.getElem?_eq_none (by omega)] at h
    cases h
theorem slN_len (k : Nat) : (slN k).length ≤ 3 := by
  have key : ∀ p ∈ sfN, p.2.length ≤ 3 := by decide
  unfold slN
  by_cases hk : k < sfN.length
  · rw [List.getD, List.getElem?_eq_getElem hk]
    exact key _ (List.getElem_mem hk)
  · rw [List.getD, List.getElem?_eq_none (by omega)]
    simp
theorem sgo_at {lt : List UInt8} {p : Nat} (hp : p < lt.length) (r : Ws) (s : Sp) : sgo (lt.drop p) r s = if (lt.getD p 0).toNat = 79 then wOp s r else match aheadW r with
    | none => (.zero, 171)
    | some n => sgo (lt.drop (p + 1)) (r.drop 1) (setS (lt.getD p 0).toNat (n : Int) s) := by
  rw [List.drop_eq_getElem_cons hp]
  have e : lt.getD p 0 = lt[p] := by simp [List.getD, hp]
  rw [e]
  conv => lhs; unfold sgo
  have e2 : (lt[p] = 79) ↔ (lt[p].toNat = 79) := ⟨fun h => by rw [h]; rfl, fun h => u8_eq (by rw [h]; rfl)⟩
  by_cases h : lt[p].toNat = 79
  · rw [if_pos (e2.2 h), if_pos h]; rfl
  · rw [if_neg (fun x => h (e2.1 x)), if_neg h]
    cases r with
    | nil => rfl
    | cons x t => rfl
theorem setS_vals (c : Nat) (n : Int) (s : Sp) : s.vals.set (offS c) (.int .i64 n) = (setS c n s).vals := by
  unfold offS setS
  split
  · rfl
  · split
    · rfl
    · split <;> rfl
theorem getS_vals (c : Nat) (s : Sp) : s.vals[offS c]? = some (.int .i64 (getS c s)) := by
  unfold offS getS
  split
  · rfl
  · split
    · rfl
    · split <;> rfl
theorem ba_neB {x y : List UInt8} : ((⟨x.toArray⟩ : ByteArray).toList != (⟨y.toArray⟩ : ByteArray).toList) = !decide (x = y) := by rw [bne, ba_ne]

/-- A list of words that is read as long as some parts stand. -/
def RtF (cs : List Comp) (v : Value) (r : Ws) : Prop := (∀ W, All cs W → Rt W v r) ∧ r.length ≤ 100000000000000 ∧ ∀ x ∈ r, x.length ≤ 140737488355328

set_option maxHeartbeats 3200000 in
set_option maxRecDepth 1000000 in
theorem readStep_any {v : Value} {l : Ws} {cs : List Comp} {w : World} (A : All cs w) (hR : ∀ W, All cs W → Rt W v l) (hE : ∀ W, All cs W → En W) (h0 : l ≠ []) (hl : l.length ≤ 100000000000000) (hs : ∀ x ∈ l, x.length ≤ 140737488355328) :
    Calls Tryz.prog 72 #[v] w (SPost (stepR l) cs) := by
  obtain ⟨ao, c, rfl⟩ := (hR w A).form
  have hpos : 0 < l.length := List.length_pos_iff.2 h0
  have A0 := hid (A.addBlk zv 43)
  obtain ⟨ao1, c1, hcut, _⟩ := cut_l (hR w A) (a := 1) (by omega) (x := 1) rfl
  have RT1 : Hid (∀ W, All cs W → Rt W (.slice ao1 (l.length - 1) c1) (l.drop 1)) := hid (fun W h => by
    obtain ⟨a2, c2, h2, h3⟩ := cut_l (hR W h) (a := 1) (by omega) (x := 1) rfl
    have := (hcut w).symm.trans (h2 w)
    simp only [Result.ok.injEq, and_true] at this
    rw [this]
    exact h3)
  have KK : Hid (findW (l.getD 0 []) 1 (sN.drop 1) = kindS (l.getD 0 [])) := hid rfl
  have FA : Hid (∀ k, k < 14 → findW (l.getD 0 []) k (sN.drop k) = if sN.getD k [] = l.getD 0 [] then some k else findW (l.getD 0 []) (k + 1) (sN.drop (k + 1))) := hid (fun k hk => findW_at (show k < sN.length from hk))
  have FE : Hid (findW (l.getD 0 []) 14 (sN.drop 14) = none) := hid rfl
  have EQ : Hid (∀ k, ((⟨(sN.getD k []).toArray⟩ : ByteArray).toList == (⟨(l.getD 0 []).toArray⟩ : ByteArray).toList) = decide (sN.getD k [] = l.getD 0 [])) := hid (fun k => ba_ne)
  have TC : Hid (∀ W, All cs W → ∀ k, k < 14 → W.cell? ⟨0, k * 2, none⟩ = some (.string ⟨(sN.getD k []).toArray⟩) ∧ W.cell? ⟨0, k * 2 + 1, none⟩ = some (.string ⟨(slN k).toArray⟩)) := hid (fun W h k hk => by rw [sN_at hk]; exact (hE W h).s.2 k hk)
  have LC : Hid (∀ W, All cs W → ∃ g o, ao = some ⟨g, o, none⟩ ∧ W.cell? ⟨g, o, none⟩ = some (.string ⟨(l.getD 0 []).toArray⟩)) := hid (fun W h => by
    obtain ⟨g, o, e, _, h1⟩ := (hR W h).at (j := 0) hpos
    exact ⟨g, o, e, h1⟩)
  have SR : Hid (stepR l = match kindS (l.getD 0 []) with
    | none => (.zero, 171)
    | some k => sgo (slN k) (l.drop 1) ⟨(k : Int), 0, 0, 0, 0, .zero⟩) := hid rfl
  have IZ : Hid ((Tryz.prog.info? 43).map (·.size) = some zv.toArray.size) := hid Tryz.i43
  have OZ : Hid (zv.toArray.all (·.oneCell') = true) := hid (sp_one .zero)
  generalize stepR l = G at *
  generalize hKS : kindS (l.getD 0 []) = KS at *
  clear hKS
  obtain ⟨g, o, rfl, _⟩ := LC.out w A
  have LC2 : Hid (∀ W, All cs W → W.cell? ⟨g, o, none⟩ = some (.string ⟨(l.getD 0 []).toArray⟩)) := hid (fun W h => by
    obtain ⟨g', o', e, h1⟩ := LC.out W h
    simp only [Option.some.injEq, Addr.mk.injEq, and_true] at e
    rw [e.1, e.2]; exact h1)
  clear LC A
  have ez : zv.toArray = #[.int .i64 0, .int .i64 0, .int .i64 0, .int .i64 0, .int .i64 0, .int .i64 0, .string ⟨#[]⟩, .string ⟨#[]⟩, .int .i64 0, .int .i64 0] := rfl
  go_enter Tryz.func72, Tryz.ntmps72
  rw [ez] at A0
  go_wp2
  go_step3
  go_wp2
  go_step3
  go_wp2
  generalize hH : w.heap.size = R at *
  clear hH
  go_loopg [4, 5] 13 (fun G rv iv wr => ∃ k : Nat, 1 ≤ k ∧ k + G = 14 ∧ rv = .slice ao1 (l.length - 1) c1 ∧ iv = .int .i64 (k : Int) ∧ Hid (findW (l.getD 0 []) k (sN.drop k) = KS) ∧ Hid (All (blkC R zv 43 :: cs) wr))
  case atStart => exact ⟨1, by omega, by omega, rfl, rfl, KK, A0⟩
  case round =>
    obtain ⟨k, hk1, hk14, rfl, rfl, hF, HA⟩ := hrel
    clear A0 KK
    by_cases hlt : k < 14
    · have hk' : (k : Int) ≤ 13 := by omega
      have hk2 : (k : Int) < 14 := by omega
      obtain ⟨t0, t1⟩ := TC.out wr HA.out.tail k hlt
      have l0 := LC2.out wr HA.out.tail
      have eq := EQ.out k
      by_cases hx : sN.getD k [] = l.getD 0 []
      · rw [decide_eq_true hx] at eq
        generalize ByteArray.mk (sN.getD k []).toArray = Y at *
        generalize ByteArray.mk (l.getD 0 []).toArray = X at *
        have eq' : (Y.toList != X.toList) = false := by simp only [bne, eq]; rfl
        go_wp2
        go_quiet (fail)
        have HG : Hid (sgo ((slN k).drop 0) (l.drop 1) ⟨(k : Int), 0, 0, 0, 0, .zero⟩ = G) := hid (by
          rw [SR.out, show KS = some k by rw [← hF.out, FA.out k hlt, if_pos hx]]; rfl)
        have HB := hid (HA.out.drewN nq)
        have LT : Hid (∀ p, p < (slN k).length → ((slN k).getD p 0).toNat = 65 ∨ ((slN k).getD p 0).toNat = 75 ∨ ((slN k).getD p 0).toNat = 88 ∨ ((slN k).getD p 0).toNat = 89 ∨ ((slN k).getD p 0).toNat = 79) := hid (fun p hp => slN_in (by
          have : (slN k).getD p 0 = (slN k)[p] := by simp [List.getD, hp]
          rw [this]; exact List.getElem_mem hp))
        clear hF hx FA FE EQ LC2 SR HA t0 t1 l0 eq eq'
        generalize wr.drewN nq = w2 at HB ⊢
        have t1 := (TC.out w2 HB.out.tail k hlt).2
        have hw2 : 0 < w2.heap.size := (hE w2 HB.out.tail).s.1
        clear TC
        generalize slN k = lt at *
        generalize hXL : ByteArray.mk lt.toArray = XL at *
        have HXL := hid hXL
        clear hXL
        have A1 := hid (HB.out.addBlk (Sp.vals ⟨(k : Int), 0, 0, 0, 0, .zero⟩) 43)
        have esz : (w2.alloc (.cells (Sp.vals ⟨(k : Int), 0, 0, 0, 0, .zero⟩).toArray 43)).heap.size = w2.heap.size + 1 := by simp
        have A2 := hid (A1.out.addIt XL)
        rw [esz] at A2
        have es0 : (Sp.vals ⟨(k : Int), 0, 0, 0, 0, .zero⟩).toArray = #[.int .i64 (k : Int), .int .i64 0, .int .i64 0, .int .i64 0, .int .i64 0, .int .i64 0, .string ⟨#[]⟩, .string ⟨#[]⟩, .int .i64 0, .int .i64 0] := rfl
        rw [es0] at A2
        clear esz es0 A1 HB
        go_wp2_with fail
        have R0 : Hid (RtF cs (.slice ao1 (l.length - 1) c1) (l.drop 1)) := hid ⟨RT1.out, by rw [List.length_drop]; omega, fun x hx => hs x (List.mem_of_mem_drop hx)⟩
        clear RT1 hs hR hcut h0 t1 hw2
        generalize w2.heap.size + 1 = IT at *
        generalize w2.heap.size = S at *
        clear hk14
        go_loopg [4, 8, 9, 10] lt.length (fun G2 v4 v8 v9 v10 wr => ∃ (p : Nat) (s : Sp) (r : Ws), p + G2 = lt.length ∧ Hid (sgo (lt.drop p) r s = G) ∧ Hid (RtF cs v4 r) ∧ Hid (All (itC IT XL p :: blkC S s.vals 43 :: blkC R zv 43 :: cs) wr))
        case atStart => exact ⟨0, _, _, by omega, HG, R0, A2⟩
        case round =>
          obtain ⟨p, s, r, hpG, hGo, hRt, HA⟩ := hrel
          clear A2 HG R0
          obtain ⟨ao4, c4, hv4⟩ := (hRt.out.1 wr HA.out.tail.tail.tail).form
          subst hv4
          by_cases hp : p < lt.length
          · have hn := next_at (lt := lt) (p := p) (g := IT) (w := wr) (by rw [HXL.out]; exact HA.out) hp (by have := LT.out p hp; omega)
            rw [HXL.out] at hn
            have A3 := hid (HA.out.setIt (p + 1))
            have hc := LT.out p hp
            have SG := hid (sgo_at hp r s)
            rw [hGo.out] at SG
            clear HA hGo
            generalize wr.iterAt IT XL (p + 1) = w3 at hn A3
            generalize hC : (lt.getD p 0).toNat = C at *
            clear hC
            by_cases h79 : C = 79
            · subst h79
              rw [if_pos rfl] at SG
              have Q := hid (withOp_any (s := s) A3.out (fun W h => hRt.out.1 W h.tail.tail.tail) (fun W h => hE W h.tail.tail.tail) (by have := hRt.out.2.1; omega) hRt.out.2.2)
              unfold SPost spV at Q ⊢
              have HS := hid (A3.out.tail.1.2.1)
              have IS : Hid ((Tryz.prog.info? 43).map (·.size) = some s.vals.toArray.size) := hid Tryz.i43
              rw [← SG.out] at Q
              have IG : Hid ((Tryz.prog.info? 43).map (·.size) = some G.1.vals.toArray.size) := hid Tryz.i43
              have OG := hid (sp_one G.1)
              have ZG : Hid (zv.toArray.size = G.1.vals.toArray.size) := hid rfl
              have LG : Hid (G.1.vals.toArray.size = 10) := hid rfl
              generalize s.vals = SV at *
              generalize G.1.vals = GV at *
              generalize G.2 = GE at *
              go_wp2_with (first | (refine wpList_load_row rfl 43 _ rfl S rfl 43 SV.toArray (0, 0) _ HS.out Tryz.underlying43 rfl IS.out ?_) | (go_at_call 96; refine Q.out.mono ?_; rintro e w4 ⟨rfl, A4⟩; have K4 := hid (A4.perm (perm3a _ _ _ _)); clear A4; have H4 := hid K4.out.1.2.1; have K5 := hid (K4.out.setRow (vs' := GV))) | (refine wpList_store_row rfl 43 _ _ rfl R GV.toArray rfl rfl 43 _ H4.out IG.out ZG.out OG.out ?_))
              rw [Exit.noGoto_ret]
              refine ret2 rfl rfl rfl (ld43 K5.out.1.2.1 LG.out) rfl ?_
              exact ⟨rfl, K5.out.tail.tail.tail⟩
            · have h79' : ¬ (C : Int) = 79 := by omega
              rw [if_neg h79] at SG
              have Q := hid (ahead_any (hE _ A3.out.tail.tail.tail).v (hRt.out.1 _ A3.out.tail.tail.tail) hRt.out.2.2)
              unfold aheadA at Q
              have IZ2 := IZ
              cases hN : aheadW r with
              | none =>
                rw [hN] at SG Q
                simp only [Option.getD_none, Option.isSome_none] at Q
                have fin : Hid (G = (.zero, 171)) := hid SG.out
                clear SG hN
                generalize r.length = nr at *
                go_wp2_with (first | (go_at_call 97; refine Q.out.mono ?_; rintro e w4 ⟨rfl, B4⟩; have K4 := hid ((A3.out.later B4).perm (perm3a _ _ _ _)); clear B4; have H4 := hid K4.out.1.2.1; have K5 := hid (K4.out.setRow (vs' := zv))) | (refine wpList_build rfl 43 _ rfl (by kernel_rfl) ?_) | (refine wpList_store_row rfl 43 _ _ rfl R zv.toArray rfl (by kernel_rfl) 43 _ H4.out IZ.out rfl OZ.out ?_))
                rw [Exit.noGoto_ret]
                refine ret2 rfl rfl rfl (ld43 K5.out.1.2.1 rfl) rfl ?_
                exact ⟨by rw [fin.out]; rfl, K5.out.tail.tail.tail⟩
              | some n =>
                rw [hN] at SG Q
                simp only [Option.getD_some, Option.isSome_some] at Q
                have hr0 : 0 < r.length := by
                  cases r with
                  | nil => simp [aheadW] at hN
                  | cons _ _ => simp
                obtain ⟨a5, c5, hcut5, _⟩ := cut_l (hRt.out.1 _ A3.out.tail.tail.tail) (a := 1) (by omega) (x := 1) rfl
                have R5 : Hid (RtF cs (.slice a5 (r.length - 1) c5) (r.drop 1)) := hid ⟨fun W h => by
                  obtain ⟨a2, c2, h2, h3⟩ := cut_l (hRt.out.1 W h) (a := 1) (by omega) (x := 1) rfl
                  have := (hcut5 W).symm.trans (h2 W)
                  simp only [Result.ok.injEq, and_true] at this
                  rw [this]
                  exact h3, by rw [List.length_drop]; have := hRt.out.2.1; omega, fun x hx => hRt.out.2.2 x (List.mem_of_mem_drop hx)⟩
                have nx : Hid (sgo (lt.drop (p + 1)) (r.drop 1) (setS C (n : Int) s) = G) := hid SG.out.symm
                have SV := hid (setS_vals C (n : Int) s)
                have GV : Hid (s.vals[offS C]? = some (.int .i64 (getS C s))) := hid (getS_vals C s)
                clear SG hN
                generalize hOF : offS C = OF at *
                have HOF : Hid (offS C = OF) := hid hOF
                clear hOF
                generalize hnr : r.length = nr at *
                clear hnr
                go_wp2_with (go_at_call 97; refine Q.out.mono ?_; rintro e w4 ⟨rfl, B4⟩; have A4 := hid (A3.out.later B4); clear B4; obtain ⟨y5, f5, _⟩ := blk_at A4.out (.tail _ (.head _)) GV.out; refine Hid.out ?_)
                refine hid ?_
                have A5 := hid ((A4.out.swap.setBlk OF (.int .i64 (n : Int))).swap)
                rw [SV.out] at A5
                go_wp2_with (go_at_call 54; refine number_any.mono ?_; rintro e w5 ⟨rfl, hw5⟩; subst w5; rw [HOF.out])
                go_roundg (lt.length - (p + 1))
                case rel => exact ⟨p + 1, _, _, by omega, nx, R5, A5⟩
                case measure => omega
          · have hn := next_end (lt := lt) (p := p) (g := IT) (w := wr) (by rw [HXL.out]; exact HA.out) hp
            have ed : lt.drop p = [] := List.drop_of_length_le (by omega)
            rw [ed] at hGo
            by_cases hr0 : r = []
            · subst hr0
              have fin : Hid (G = (s, 0)) := hid hGo.out.symm
              clear hGo ed
              have HS := hid (HA.out.tail.1.2.1)
              have IS : Hid ((Tryz.prog.info? 43).map (·.size) = some s.vals.toArray.size) := hid Tryz.i43
              have OS := hid (sp_one s)
              have K4 := hid (HA.out.perm (perm3a _ _ _ _))
              have H4 := hid K4.out.1.2.1
              have K5 := hid (K4.out.setRow (vs' := s.vals))
              have ZS : Hid (zv.toArray.size = s.vals.toArray.size) := hid rfl
              have LS : Hid (s.vals.toArray.size = 10) := hid rfl
              generalize hSV : s.vals = SV at *
              have HSV := hid hSV
              clear hSV
              go_wp2_with (first | (refine wpList_load_row rfl 43 _ rfl S rfl 43 SV.toArray (0, 0) _ HS.out Tryz.underlying43 rfl IS.out ?_) | (refine wpList_store_row rfl 43 _ _ rfl R SV.toArray rfl rfl 43 _ H4.out IS.out ZS.out OS.out ?_))
              rw [Exit.noGoto_ret]
              refine ret2 rfl rfl rfl (ld43 K5.out.1.2.1 LS.out) rfl ?_
              exact ⟨by rw [fin.out]; show _ = Ending.returned (.tuple #[.agg s.vals.toArray, .int .i64 0]); rw [HSV.out]; rfl, K5.out.tail.tail.tail⟩
            · have fin : Hid (G = (.zero, 171)) := hid (by rw [← hGo.out, sgo, if_neg hr0])
              have hr1 : 0 < r.length := List.length_pos_iff.2 hr0
              have hr2 : (0 : Int) < (r.length : Int) := by omega
              clear hGo ed hr0
              generalize r.length = nr at *
              have K4 := hid (HA.out.perm (perm3a _ _ _ _))
              have H4 := hid K4.out.1.2.1
              have K5 := hid (K4.out.setRow (vs' := zv))
              go_wp2_with (first | (refine wpList_build rfl 43 _ rfl (by kernel_rfl) ?_) | (refine wpList_store_row rfl 43 _ _ rfl R zv.toArray rfl (by kernel_rfl) 43 _ H4.out IZ.out rfl OZ.out ?_))
              rw [Exit.noGoto_ret]
              refine ret2 rfl rfl rfl (ld43 K5.out.1.2.1 rfl) rfl ?_
              exact ⟨by rw [fin.out]; rfl, K5.out.tail.tail.tail⟩
      · rw [decide_eq_false hx] at eq
        have nx : Hid (findW (l.getD 0 []) (k + 1) (sN.drop (k + 1)) = KS) := hid (by rw [← hF.out, FA.out k hlt, if_neg hx])
        generalize ByteArray.mk (sN.getD k []).toArray = Y at *
        generalize ByteArray.mk (l.getD 0 []).toArray = X at *
        clear hx
        have eq' : (Y.toList != X.toList) = true := by simp only [bne, eq]; rfl
        go_wp2
        go_quiet (fail)
        go_wp2
        go_roundg (14 - (k + 1))
        case rel => exact ⟨k + 1, by omega, by omega, rfl, by go_num, nx, hid (HA.out.drewN _)⟩
        case measure => omega
    · have hk' : ¬ (k : Int) ≤ 13 := by omega
      have ek : k = 14 := by omega
      have fin : Hid (G = (.zero, 171)) := hid (by rw [SR.out, show KS = none by rw [← hF.out, ek]; exact FE.out])
      clear ek
      have H1 := hid HA.out.1.2.1
      have A4 := hid (HA.out.setRow (vs' := zv))
      go_wp2_with (first | (refine wpList_build rfl 43 _ rfl (by kernel_rfl) ?_) | (refine wpList_store_row rfl 43 _ _ rfl R zv.toArray rfl (by kernel_rfl) 43 _ H1.out IZ.out rfl OZ.out ?_))
      refine ret2 rfl rfl rfl (ld43 A4.out.1.2.1 rfl) rfl ?_
      exact ⟨by rw [fin.out]; rfl, A4.out.tail⟩
end Go.Proofs.YtblojlaifnmimaaGreatDoor

namespace Go.Proofs.YtblojlaifnmimaaGreatDoor
open Go.RowKit
set_option linter.unusedVariables false

/-- Where the numbers of a config lie. -/
def numsP (B : Nat) : List Value := [.pointer (some ⟨B, 0, none⟩), .pointer (some ⟨B, 1, none⟩), .pointer (some ⟨B, 2, none⟩), .pointer (some ⟨B, 3, none⟩), .pointer (some ⟨B, 4, none⟩), .pointer (some ⟨B, 5, none⟩), .pointer (some ⟨B, 6, none⟩), .pointer (some ⟨B, 7, none⟩), .pointer (some ⟨B, 8, none⟩), .pointer (some ⟨B, 9, none⟩)]
theorem Tryz.i93 : (Tryz.prog.info? 93).map (·.size) = some 10 := by kernel_rfl
theorem nums_one (B : Nat) : (numsP B).toArray.all (·.oneCell') = true := by simp [numsP, Value.oneCell']
def setMid : List Value → Nat → List Value → List Value
  | vs, _, [] => vs
  | vs, o, v :: r => setMid (vs.set o v) (o + 1) r
theorem All.setMid {g : Nat} {t : TypeId} {cs : List Comp} : ∀ (us : List Value) (vs : List Value) (o : Nat) (w : World), All (blkC g vs t :: cs) w → All (blkC g (Go.Proofs.YtblojlaifnmimaaGreatDoor.setMid vs o us) t :: cs) (w.setCells g o us)
  | [], vs, o, w, h => h
  | u :: us, vs, o, w, h => All.setMid us (vs.set o u) (o + 1) _ (h.setBlk o u)
set_option maxHeartbeats 1600000 in
set_option maxRecDepth 1000000 in
theorem numbers_any {B : Nat} {w : World} : Calls Tryz.prog 51 #[ptr B] w fun e w' => e = .returned (.agg (numsP B).toArray) ∧ Below w.heap.size w w' := by
  have A0 := hid ((All.came w).addBlk [.pointer none, .pointer none, .pointer none, .pointer none, .pointer none, .pointer none, .pointer none, .pointer none, .pointer none, .pointer none] 93)
  have h1 : ∀ v ∈ ([.pointer (some ⟨B, 0, none⟩), .pointer (some ⟨B, 1, none⟩), .pointer (some ⟨B, 2, none⟩), .pointer (some ⟨B, 3, none⟩), .pointer (some ⟨B, 4, none⟩), .pointer (some ⟨B, 5, none⟩), .pointer (some ⟨B, 6, none⟩), .pointer (some ⟨B, 7, none⟩), .pointer (some ⟨B, 8, none⟩), .pointer (some ⟨B, 9, none⟩)] : List Value), v.oneCell' = true := by
    intro v hv
    simp only [List.mem_cons, List.not_mem_nil, or_false] at hv
    rcases hv with rfl | rfl | rfl | rfl | rfl | rfl | rfl | rfl | rfl | rfl <;> rfl
  have h2 : (w.alloc (.cells #[.pointer none, .pointer none, .pointer none, .pointer none, .pointer none, .pointer none, .pointer none, .pointer none, .pointer none, .pointer none] 93)).drew.there w.heap.size 0 ([.pointer (some ⟨B, 0, none⟩), .pointer (some ⟨B, 1, none⟩), .pointer (some ⟨B, 2, none⟩), .pointer (some ⟨B, 3, none⟩), .pointer (some ⟨B, 4, none⟩), .pointer (some ⟨B, 5, none⟩), .pointer (some ⟨B, 6, none⟩), .pointer (some ⟨B, 7, none⟩), .pointer (some ⟨B, 8, none⟩), .pointer (some ⟨B, 9, none⟩)] : List Value).length := fun j hj => by
    have hb := A0.out.drew.1.2.1
    refine ⟨?_, free_at hb _⟩
    rw [cell_at hb]
    have hj' : j < 10 := hj
    obtain rfl | rfl | rfl | rfl | rfl | rfl | rfl | rfl | rfl | rfl : j = 0 ∨ j = 1 ∨ j = 2 ∨ j = 3 ∨ j = 4 ∨ j = 5 ∨ j = 6 ∨ j = 7 ∨ j = 8 ∨ j = 9 := by omega
    all_goals rfl
  have h3 : (Tryz.prog.info? 93).map (·.size) = some ([.pointer (some ⟨B, 0, none⟩), .pointer (some ⟨B, 1, none⟩), .pointer (some ⟨B, 2, none⟩), .pointer (some ⟨B, 3, none⟩), .pointer (some ⟨B, 4, none⟩), .pointer (some ⟨B, 5, none⟩), .pointer (some ⟨B, 6, none⟩), .pointer (some ⟨B, 7, none⟩), .pointer (some ⟨B, 8, none⟩), .pointer (some ⟨B, 9, none⟩)] : List Value).length := Tryz.i93
  go_enter Tryz.func51, Tryz.ntmps51
  go_upto_region 1 with fail
  go_region_held3 (fun _ => True) (trivial) (first | (fail))
  go_wp2
  have A1 := hid (All.setMid (numsP B) _ 0 _ A0.out.drew)
  refine bodyPost_ret (v := .agg (numsP B).toArray) (results_cell_row (fn := Tryz.f51) rfl _ _ w.heap.size 93 (numsP B).toArray (0, 0) _ rfl A1.out.1.2.1 Tryz.underlying93 rfl Tryz.i93) rfl ?_
  exact ⟨rfl, A1.out.into (by simp)⟩
/-- A config's cells. -/
def cI (c : List Int) : List Value := c.map (Value.int .i64)
def zC : List Int := [0, 0, 0, 0, 0, 0, 0, 0, 0, 0]
theorem cI_len (c : List Int) : (cI c).length = c.length := by simp [cI]
theorem cI_one (c : List Int) : (cI c).toArray.all (·.oneCell') = true := all_oneCell_toArray (by
  intro u hu
  obtain ⟨y, _, rfl⟩ := List.mem_map.1 hu
  rfl)
theorem index_nums (B i : Nat) (hi : i < 10) (W : World) : (Instr.index 93 (.agg (numsP B).toArray) (.int .i64 (i : Int))).run Tryz.prog W = .ok (.pointer (some ⟨B, i, none⟩)) W := by
  obtain rfl | rfl | rfl | rfl | rfl | rfl | rfl | rfl | rfl | rfl : i = 0 ∨ i = 1 ∨ i = 2 ∨ i = 3 ∨ i = 4 ∨ i = 5 ∨ i = 6 ∨ i = 7 ∨ i = 8 ∨ i = 9 := by omega
  all_goals kernel_rfl
end Go.Proofs.YtblojlaifnmimaaGreatDoor
