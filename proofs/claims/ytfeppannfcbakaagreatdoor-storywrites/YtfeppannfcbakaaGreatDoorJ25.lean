import Derived.Test.YtfeppannfcbakaaGreatDoorJ24
import Derived.Test.YtfeppannfcbakaaGreatDoorJ18
import Derived.Great.BuildSlice
import Derived.Test.YtfeppannfcbakaaGreatDoorJ19
namespace Go.Proofs.YtfeppannfcbakaaGreatDoor
open Go.RowKit
set_option linter.unusedVariables false
set_option maxRecDepth 100000

theorem Tryz.inf36 : (Tryz.prog.info? 36).map (fun i => (i.zero, i.size, i.bytes)) = some (some (.agg (Ev.zero 0).cells.toArray), 33, 328) := by kernel_rfl
theorem Tryz.inf42 : (Tryz.prog.info? 42).map (fun i => (i.zero, i.size, i.bytes)) = some (some (.slice none 0 0), 1, 24) := by kernel_rfl
theorem und42 : Tryz.prog.underlying 42 = some (.slice 36) := by kernel_rfl
theorem und38 : Tryz.prog.underlying 38 = some (.slice 42) := by kernel_rfl
theorem fill_of {F : Nat → Option (Nat × Nat)} {Z : Array Value} {L L' : List (Nat × Value)} {C : Array Value} (h : Instr.fill F Z L = some C) (e : L' = L) : Instr.fill F Z L' = some C := e ▸ h
/-- A list of one event, laid. -/
structure Bs (ie : TypeInfo) (z : Value) (C : Array Value) : Prop where
  i : Tryz.prog.info? 36 = some ie
  o : ie.zero = some z
  s : ¬ 1 * ie.size > 2 ^ 24
  p : ¬ 1 * ie.size = 0
  f : Instr.fill (fun i => some (i * ie.size, ie.size)) ((Array.range (1 * ie.size)).map (z.cells[· % z.cells.size]!)) [(0, .agg C)] = some C
theorem bs36 (m : Ev) : ∃ ie z, Bs ie z m.cells.toArray := by
  obtain ⟨i1, hi1, hz0, hz1, hz2⟩ := info_parts Tryz.inf36
  refine ⟨i1, _, hi1, hz0, by rw [hz1]; decide, by rw [hz1]; decide, ?_⟩
  rw [hz1]
  kernel_rfl
/-- An event whose lists lie elsewhere. -/
def Ev.own (e : Ev) (ra : Option Addr) (rc : Nat) (da : Option Addr) (dc : Nat) : Ev := { e with ria := ra, ric := rc, dia := da, dic := dc }
theorem ev_one (e : Ev) : ∀ u ∈ e.cells, u.oneCell' = true := by
  intro u hu
  have : e.cells.all (·.oneCell') = true := by kernel_rfl
  exact List.all_eq_true.1 this u hu
theorem own5 (v : Value) (l : List UInt8) : ownC 5 v (cellsB l) = rowC 5 1 v l.length (cellsB l) := by unfold ownC rowC; rw [cellsB_length]
/-- Bytes laid behind a new list. -/
theorem cop_run {W : World} {v : Value} {l : List UInt8} {cs : List Comp} (A : All cs W) (h : BRd W v l) (hl : l.length ≤ 140737488355328) :
    ∃ ao c w', (Builtin.append_ #[32, 32] 32 #[.slice (some ⟨W.heap.size, 0, none⟩) 0 0, v]).run Tryz.prog (W.alloc (.cells #[] 5)) = .ok (.slice ao l.length c) w' ∧ All (ownC 5 (.slice ao l.length c) (cellsB l) :: cs) w' := by
  obtain ⟨i1, hi1, hz0, hz1, hz2⟩ := info_parts Tryz.info5
  obtain ⟨ao2, c2, rfl, hc2, hx⟩ := h.later (ba W (.cells #[] 5))
  obtain ⟨ao, c, w', hr, hA⟩ := appN (c := c2) (news := cellsB l) (m := l.length) Tryz.underlying32 hi1 hz0 hz1 hz2 rfl (by decide) (A.addRowE 5 1) ao2 (by rw [cellsB_length]; omega)
    (fun h0 => by
      rcases hx with rfl | ⟨g, o, rfl, _, hc⟩
      · simp at h0
      · refine ⟨_, rfl, fun j u hu => ?_⟩
        rw [Addr.add_lit]
        unfold cellsB at hu
        rw [List.getElem?_map] at hu
        obtain ⟨b, hb, rfl⟩ := Option.map_eq_some_iff.1 hu
        exact hc j b hb) (cellsB_one l) (by unfold maxLen; omega) (by omega)
  rw [Nat.zero_add] at hr hA
  rw [List.nil_append] at hA
  exact ⟨ao, c, w', hr, by rw [own5]; exact hA⟩
set_option maxHeartbeats 1600000 in
set_option maxRecDepth 1000000 in
theorem copied_any {s : Value} {l : List UInt8} {cs : List Comp} {w : World} (A : All cs w) (h : BRd w s l) (hl : l.length ≤ 140737488355328) :
    Calls Tryz.prog 44 #[s] w fun r w' => ∃ ao c, r = .returned (.slice ao l.length c) ∧ All (ownC 5 (.slice ao l.length c) (cellsB l) :: cs) w' := by
  obtain ⟨ao, c, w', hr, hA⟩ := cop_run A h hl
  obtain ⟨a0, c0, rfl⟩ := h.form
  have R := hid hr
  have KA := hid hA
  clear hr hA A h hl
  go_enter Tryz.func44, Tryz.ntmps44
  go_wp2_with (at_builtin; refine wpList_append_run rfl _ _ 32 rfl _ _ _ _ rfl rfl R.out ?_)
  go_ret
  exact ⟨_, _, rfl, KA.out⟩
/-- Texts laid behind a new list. -/
theorem txt_run {W : World} {v : Value} {l : Ws} {cs : List Comp} (A : All cs W) (h : Rt W v l) (hl : l.length * 16 ≤ 140737488355328) :
    ∃ ao c w', (Builtin.append_ #[27, 27] 27 #[.slice (some ⟨W.heap.size, 0, none⟩) 0 0, v]).run Tryz.prog (W.alloc (.cells #[] 9)) = .ok (.slice ao l.length c) w' ∧ All (ownC 9 (.slice ao l.length c) (txW l) :: cs) w' := by
  obtain ⟨ao, c, w', hr, hA⟩ := appR (l := []) A.addMade (h.later (ba W (.cells #[] 9))) (by simpa using hl)
  rw [List.length_nil, Nat.zero_add] at hr hA
  rw [List.nil_append] at hA
  exact ⟨ao, c, w', hr, hA⟩
/-- One event laid behind a new list. -/
theorem ev_run {W : World} {G H : Nat} {e : Ev} {cs : List Comp} (A : All (rowC 36 33 (.slice (some ⟨G, 0, none⟩) 0 0) 0 [] :: cs) W) (hH : blkC H e.cells 36 ∈ cs) :
    ∃ ao c w', (Builtin.append_ #[42, 42] 42 #[.slice (some ⟨G, 0, none⟩) 0 0, .slice (some ⟨H, 0, none⟩) 1 1]).run Tryz.prog W = .ok (.slice ao 1 c) w' ∧ All (rowC 36 33 (.slice ao 1 c) 1 e.cells :: cs) w' := by
  obtain ⟨i1, hi1, hz0, hz1, hz2⟩ := info_parts Tryz.inf36
  have hB := A.tail.blk hH
  obtain ⟨ao, c, w', hr, hA⟩ := appN (c := 1) (news := e.cells) (m := 1) und42 hi1 hz0 hz1 hz2 rfl (by decide) A (some ⟨H, 0, none⟩) rfl (fun _ => ⟨_, rfl, fun j u hu => by rw [Addr.add_lit, Nat.zero_add, cell_at hB]; simpa using hu⟩) (ev_one e) (by unfold maxLen; omega) (by omega)
  exact ⟨ao, c, w', hr, by rw [List.nil_append] at hA; exact hA⟩
/-- One step laid behind a new list. -/
theorem st_run {W : World} {G H : Nat} {s : Value} {cs : List Comp} (hs : s.oneCell' = true) (A : All (rowC 42 1 (.slice (some ⟨G, 0, none⟩) 0 0) 0 [] :: cs) W) (hH : W.heap[H]? = some (.cells #[s] 42 (0, 0))) :
    ∃ ao c w', (Builtin.append_ #[38, 38] 38 #[.slice (some ⟨G, 0, none⟩) 0 0, .slice (some ⟨H, 0, none⟩) 1 1]).run Tryz.prog W = .ok (.slice ao 1 c) w' ∧ All (rowC 42 1 (.slice ao 1 c) 1 [s] :: cs) w' := by
  obtain ⟨i1, hi1, hz0, hz1, hz2⟩ := info_parts Tryz.inf42
  obtain ⟨ao, c, w', hr, hA⟩ := appN (c := 1) (news := [s]) (m := 1) und38 hi1 hz0 hz1 hz2 rfl (by decide) A (some ⟨H, 0, none⟩) rfl (fun _ => ⟨_, rfl, fun j u hu => by rw [Addr.add_lit, Nat.zero_add, cell_at hH]; simpa using hu⟩) (fun u hu => by simp only [List.mem_singleton] at hu; subst hu; exact hs) (by unfold maxLen; omega) (by omega)
  exact ⟨ao, c, w', hr, by rw [List.nil_append] at hA; exact hA⟩
set_option maxHeartbeats 6400000 in
set_option maxRecDepth 1000000 in
/-- A history of one event, in memory of its own. -/
theorem owned_one {e : Ev} {items : Ws} {data : List UInt8} {H1 H2 : Nat} {cs : List Comp} {w : World} (hi : items.length = e.rik) (hd : data.length = e.dik) (hI : ∀ W, All cs W → Rt W (.slice e.ria e.rik e.ric) items) (hD : ∀ W, All cs W → BRd W (.slice e.dia e.dik e.dic) data) (hil : items.length * 16 ≤ 140737488355328) (hdl : data.length ≤ 140737488355328) (h1 : blkC H1 e.cells 36 ∈ cs) (h2 : blkC H2 [.slice (some ⟨H1, 0, none⟩) 1 1] 42 ∈ cs) (A : All cs w) :
    Calls Tryz.prog 20 #[.slice (some ⟨H2, 0, none⟩) 1 1] w fun r w' => ∃ ra rc da dc ao1 c1 ao2 c2, r = .returned (.slice ao2 1 c2) ∧ All (rowC 42 1 (.slice ao2 1 c2) 1 [.slice ao1 1 c1] :: rowC 36 33 (.slice ao1 1 c1) 1 (e.own ra rc da dc).cells :: ownC 9 (.slice ra e.rik rc) (txW items) :: ownC 5 (.slice da e.dik dc) (cellsB data) :: cs) w' := by
  have B1 : Hid (∀ W ds, All (ds ++ cs) W → W.heap[H1]? = some (.cells e.cells.toArray 36 (0, 0))) := hid (fun W ds h => h.blk (List.mem_append_right _ h1))
  have B2 : Hid (∀ W ds, All (ds ++ cs) W → W.cell? ⟨H2, 0, none⟩ = some (.slice (some ⟨H1, 0, none⟩) 1 1)) := hid (fun W ds h => cell_in h (List.mem_append_right _ h2) rfl)
  have I36 : Hid ((Tryz.prog.info? 36).map (·.size) = some e.cells.toArray.size) := hid (by kernel_rfl)
  have Z36 : Hid ((Ev.zero 0).cells.toArray.size = e.cells.toArray.size) := hid rfl
  have O36 : Hid (e.cells.toArray.all (·.oneCell') = true) := hid (by kernel_rfl)
  have RI : Hid (∀ W ds, All (ds ++ cs) W → ∃ ao c w', (Builtin.append_ #[27, 27] 27 #[.slice (some ⟨W.heap.size, 0, none⟩) 0 0, .slice e.ria e.rik e.ric]).run Tryz.prog (W.alloc (.cells #[] 9)) = .ok (.slice ao e.rik c) w' ∧ All (ownC 9 (.slice ao e.rik c) (txW items) :: (ds ++ cs)) w') := hid (fun W ds h => by
    have := txt_run h (hI W (dropA h)) hil
    rw [hi] at this
    exact this)
  have CD : Hid (∀ W ds, All (ds ++ cs) W → Calls Tryz.prog 44 #[.slice e.dia e.dik e.dic] W fun r w' => ∃ ao c, r = .returned (.slice ao e.dik c) ∧ All (ownC 5 (.slice ao e.dik c) (cellsB data) :: (ds ++ cs)) w') := hid (fun W ds h => by
    have := copied_any h (hD W (dropA h)) hdl
    rw [hd] at this
    exact this)
  have C21 : Hid (e.cells.getD 21 (.int .i64 0) = .slice e.ria e.rik e.ric) := hid rfl
  have S21 : Hid (∀ ao c, e.cells.set 21 (.slice ao e.rik c) = (e.own ao c e.dia e.dic).cells) := hid (fun _ _ => rfl)
  have S32 : Hid (∀ a c ao cc, (e.own a c e.dia e.dic).cells.set 32 (.slice ao e.dik cc) = (e.own a c ao cc).cells) := hid (fun _ _ _ _ => rfl)
  have BSS : Hid (∀ a c ao cc, ∃ ie z, Bs ie z (e.own a c ao cc).cells.toArray) := hid (fun a c ao cc => bs36 (e.own a c ao cc))
  have I37 : Hid (∀ a c ao cc, (Tryz.prog.info? 36).map (·.size) = some (e.own a c ao cc).cells.toArray.size) := hid (fun _ _ _ _ => by kernel_rfl)
  have GR : Hid (∀ W g ds, All (blkC g e.cells 36 :: ds) W → W.cell? ⟨g, 21, none⟩ = some (.slice e.ria e.rik e.ric)) := hid (fun W g ds h => cell_in h List.mem_cons_self rfl)
  have GD : Hid (∀ W g a c ds, All (blkC g (e.own a c e.dia e.dic).cells 36 :: ds) W → W.cell? ⟨g, 32, none⟩ = some (.slice e.dia e.dik e.dic)) := hid (fun W g a c ds h => cell_in h List.mem_cons_self rfl)
  have A1 := hid (A.addRowE 42 1)
  clear A hI hD h1 h2 hi hd hil hdl
  generalize e.rik = rik at *
  generalize e.dik = dik at *
  generalize e.ria = ria at *
  generalize e.ric = ric at *
  generalize e.dia = dia at *
  generalize e.dic = dic at *
  generalize hEC : e.cells = EC at *
  clear hEC
  go_enter Tryz.func20, Tryz.ntmps20
  go_wp2
  generalize w.alloc (.cells #[] 42) = w1 at *
  generalize w.heap.size = G0 at *
  go_loopw [3, 4] (fun ov iv wr => (iv = .int .i64 0 ∧ ov = .slice (some ⟨G0, 0, none⟩) 0 0 ∧ w1 = wr) ∨ (iv = .int .i64 1 ∧ ∃ ra rc da dc ao1 c1 ao2 c2, ov = .slice ao2 1 c2 ∧ All (rowC 42 1 (.slice ao2 1 c2) 1 [.slice ao1 1 c1] :: rowC 36 33 (.slice ao1 1 c1) 1 (e.own ra rc da dc).cells :: ownC 9 (.slice ra rik rc) (txW items) :: ownC 5 (.slice da dik dc) (cellsB data) :: cs) wr)) (fun _ iv _ => 1 - (intOf iv).toNat)
  case atStart => exact Or.inl ⟨rfl, rfl, rfl⟩
  case round =>
    rcases hrel with ⟨rfl, rfl, rfl⟩ | ⟨rfl, ra, rc, da, dc, ao1, c1, ao2, c2, rfl, hA⟩
    rotate_left
    · have K := hid hA
      clear hA
      go_wp2
      go_ret
      exact ⟨ra, rc, da, dc, ao1, c1, ao2, c2, rfl, K.out⟩
    have A2 := hid (A1.out.addRowE 36 33)
    go_wp2
    generalize w1.alloc (.cells #[] 36) = w2 at *
    generalize w1.heap.size = G1 at *
    go_loopw [5, 6] (fun sv kv ws => (kv = .int .i64 0 ∧ sv = .slice (some ⟨G1, 0, none⟩) 0 0 ∧ w2 = ws) ∨ (kv = .int .i64 1 ∧ ∃ ra rc da dc ao1 c1, sv = .slice ao1 1 c1 ∧ All (rowC 36 33 (.slice ao1 1 c1) 1 (e.own ra rc da dc).cells :: ownC 9 (.slice ra rik rc) (txW items) :: ownC 5 (.slice da dik dc) (cellsB data) :: rowC 42 1 (.slice (some ⟨G0, 0, none⟩) 0 0) 0 [] :: cs) ws)) (fun _ kv _ => 1 - (intOf kv).toNat)
    case atStart => exact Or.inl ⟨rfl, rfl, rfl⟩
    case round =>
      rcases hrel with ⟨rfl, rfl, rfl⟩ | ⟨rfl, ra, rc, da, dc, ao1, c1, rfl, hA⟩
      rotate_left
      · have K := hid hA
        clear hA
        have b2 := B2.out _ [_, _, _, _] K.out
        obtain ⟨aoz, cz, wz, hrz, Az⟩ := st_run (s := .slice ao1 1 c1) rfl ((K.out.perm (List.perm_middle (l₁ := [_, _, _]))).alloc (.cells #[.slice ao1 1 c1] 42)) (heap_alloc_new _ _)
        have Rz := hid hrz
        have Kz := hid Az
        clear hrz Az
        go_wp2_with (at_builtin; refine wpList_append_run rfl _ _ 38 rfl _ _ _ _ rfl rfl Rz.out ?_)
        go_roundw
        case rel => exact Or.inr ⟨rfl, ra, rc, da, dc, ao1, c1, aoz, cz, rfl, Kz.out⟩
        case measure => simp [intOf]
      have b2 := B2.out _ [_, _] A2.out
      have b1 := hid (B1.out _ [_, _] A2.out)
      have K3 := hid (A2.out.addBlk EC 36)
      go_upto_region 10 with (first | (refine wpList_load_row rfl 36 _ rfl H1 rfl 36 EC.toArray (0, 0) _ b1.out Tryz.underlying36 rfl I36.out ?_) | (refine wpList_store_row rfl 36 _ _ rfl w2.heap.size EC.toArray rfl rfl 36 _ (heap_alloc_new w2 _) I36.out Z36.out O36.out ?_; rw [World.setRow_alloc_new]))
      generalize w2.alloc (.cells EC.toArray 36) = w3 at *
      generalize w2.heap.size = G2 at *
      obtain ⟨ra, rc, w4, hr4, A4⟩ := RI.out _ [_, _, _] K3.out
      have R4 := hid hr4
      have K4 := hid A4
      clear hr4 A4
      have r3 := GR.out _ _ _ (K3.out.alloc (.cells #[] 9))
      go_upto_region 12 with (at_builtin; refine wpList_append_run rfl _ _ 27 rfl _ _ _ _ rfl rfl R4.out ?_)
      clear r3
      have r4 := GR.out _ _ _ K4.out.swap
      have f4 := free_at (K4.out.swap.blk List.mem_cons_self) 21
      have K5 := hid (K4.out.swap.setBlk 21 (.slice ra rik rc))
      rw [S21.out] at K5
      go_upto_region 13 with fail
      generalize w4.setCell _ _ = w5 at *
      have r5 := GD.out _ _ _ _ _ K5.out
      have CD5 := hid (CD.out _ [_, _, _, _] K5.out)
      go_upto_region 14 with (go_at_call 44; refine CD5.out.mono ?_; rintro r w6 ⟨da, dc, rfl, B6⟩; have K6 := hid B6; clear B6; have r6 := GD.out _ _ _ _ _ K6.out.swap; have f6 := free_at (K6.out.swap.blk List.mem_cons_self) 32)
      have K7 := hid (K6.out.swap.setBlk 32 (.slice da dik dc))
      rw [S32.out] at K7
      generalize w6.setCell _ _ = w7 at *
      clear r4 f4 r5 r6 f6
      obtain ⟨ie, z, bs⟩ := BSS.out ra rc da dc
      have BS := hid bs
      clear bs
      have I7 := hid (I37.out ra rc da dc)
      obtain ⟨ao1, c1, w9, hr9, A9⟩ := ev_run (H := w7.heap.size) ((K7.out.addBlk (e.own ra rc da dc).cells 36).perm (List.perm_middle (l₁ := [_, _, _, _]))) List.mem_cons_self
      have R9 := hid hr9
      have K9 := hid (A9.swap.tail.swap.tail.perm (List.Perm.cons _ (List.Perm.swap _ _ _)))
      clear hr9 A9
      have HB7 := hid (K7.out.blk (g := G2) (t := 36) List.mem_cons_self)
      generalize hXC : (e.own ra rc da dc).cells = XC at *
      go_wp2_with (first | (refine wpList_load_row rfl 36 _ rfl G2 rfl 36 XC.toArray (0, 0) _ HB7.out Tryz.underlying36 rfl I7.out ?_) | (refine wpList_buildSlice rfl 42 36 1 _ rfl XC.toArray ie z und42 BS.out.i BS.out.o BS.out.s BS.out.p (fill_of BS.out.f (by kernel_rfl)) ?_) | (at_builtin; refine wpList_append_run rfl _ _ 42 rfl _ _ _ _ rfl rfl R9.out ?_))
      go_roundw
      case rel => exact Or.inr ⟨rfl, ra, rc, da, dc, ao1, c1, rfl, by rw [hXC]; exact K9.out⟩
      case measure => simp [intOf]
end Go.Proofs.YtfeppannfcbakaaGreatDoor

namespace Go.Proofs.YtfeppannfcbakaaGreatDoor
open Go.RowKit
set_option linter.unusedVariables false
set_option maxRecDepth 100000

set_option maxHeartbeats 3200000 in
set_option maxRecDepth 1000000 in
theorem one_any {e : Ev} {items : Ws} {data : List UInt8} {cs : List Comp} {w : World} (hi : items.length = e.rik) (hd : data.length = e.dik) (hI : ∀ W, All cs W → Rt W (.slice e.ria e.rik e.ric) items) (hD : ∀ W, All cs W → BRd W (.slice e.dia e.dik e.dic) data) (hil : items.length * 16 ≤ 140737488355328) (hdl : data.length ≤ 140737488355328) (A : All cs w) :
    Calls Tryz.prog 10 #[.agg e.cells.toArray] w fun r w' => ∃ ra rc da dc ao1 c1 ao2 c2, r = .returned (.slice ao2 1 c2) ∧ All (rowC 42 1 (.slice ao2 1 c2) 1 [.slice ao1 1 c1] :: rowC 36 33 (.slice ao1 1 c1) 1 (e.own ra rc da dc).cells :: ownC 9 (.slice ra e.rik rc) (txW items) :: ownC 5 (.slice da e.dik dc) (cellsB data) :: cs) w' := by
  have A0 := hid (A.addBlk e.cells 36)
  have A1 := hid (A0.out.addBlk e.cells 36)
  have A2 := hid (A1.out.addBlk [.slice (some ⟨(w.alloc (.cells e.cells.toArray 36)).heap.size, 0, none⟩) 1 1] 42)
  have CC := hid (owned_one hi hd (fun W h => hI W h.tail.tail.tail) (fun W h => hD W h.tail.tail.tail) hil hdl (List.mem_cons_of_mem _ List.mem_cons_self) List.mem_cons_self A2.out)
  have sz : ∀ (V : World) (o : Obj), (V.alloc o).heap.size = V.heap.size + 1 := fun V o => by simp
  rw [sz (w.alloc (.cells e.cells.toArray 36)) (.cells e.cells.toArray 36)] at CC
  have HB := hid (A0.out.blk (g := w.heap.size) (vs := e.cells) (t := 36) List.mem_cons_self)
  have I36 : Hid ((Tryz.prog.info? 36).map (·.size) = some e.cells.toArray.size) := hid (by kernel_rfl)
  obtain ⟨ie, z, bs⟩ := bs36 e
  have BS := hid bs
  clear sz bs A hI hD hi hd hil hdl
  generalize e.cells = EC at *
  go_enter Tryz.func10, Tryz.ntmps10
  go_upto_region 1 with fail
  generalize w.alloc (.cells EC.toArray 36) = w0 at *
  go_wp2_with (first | (refine wpList_load_row rfl 36 _ rfl w.heap.size rfl 36 EC.toArray (0, 0) _ HB.out Tryz.underlying36 rfl I36.out ?_) | (refine wpList_buildSlice rfl 42 36 1 _ rfl EC.toArray ie z und42 BS.out.i BS.out.o BS.out.s BS.out.p (fill_of BS.out.f (by kernel_rfl)) ?_) | (go_at_call 20; refine CC.out.mono ?_; rintro r w3 ⟨ra, rc, da, dc, ao1, c1, ao2, c2, rfl, B3⟩; have K3 := hid B3; clear B3))
  go_ret
  exact ⟨ra, rc, da, dc, ao1, c1, ao2, c2, rfl, dropA (xs := [_, _, _]) (K3.out.perm (List.perm_append_comm_assoc [_, _, _, _] [_, _, _] _))⟩
end Go.Proofs.YtfeppannfcbakaaGreatDoor

namespace Go.Proofs.YtfeppannfcbakaaGreatDoor
open Go.RowKit
set_option linter.unusedVariables false
set_option maxRecDepth 100000

theorem Ev.own_rg {e : Ev} (h : e.Rg) (ra : Option Addr) (rc : Nat) (da : Option Addr) (dc : Nat) : (e.own ra rc da dc).Rg := by
  cases h
  constructor <;> assumption
set_option maxHeartbeats 3200000 in
theorem Ev.own_left (e : Ev) (ra : Option Addr) (rc : Nat) (da : Option Addr) (dc : Nat) : (e.own ra rc da dc).left.empty = e.left.empty := by
  have hk : (e.own ra rc da dc).k = e.k := rfl
  unfold Ev.left
  rw [hk]
  repeat' split
  all_goals rfl
set_option maxHeartbeats 3200000 in
theorem Ev.own_form (e : Ev) (ra : Option Addr) (rc : Nat) (da : Option Addr) (dc : Nat) : (e.own ra rc da dc).inForm = e.inForm := by
  rw [inForm_plain, inForm_plain, Ev.own_left]
  have h1 : (e.own ra rc da dc).numsOk = e.numsOk := rfl
  have h2 : (e.own ra rc da dc).stOk = e.stOk := rfl
  have h3 : (e.own ra rc da dc).dik = e.dik := rfl
  have hk : (e.own ra rc da dc).k = e.k := rfl
  rw [h1, h2, h3, hk]
theorem Ev.own_at (e : Ev) (ra : Option Addr) (rc : Nat) (da : Option Addr) (dc : Nat) {o : Nat} (h1 : 21 ≠ o) (h2 : 32 ≠ o) : (e.own ra rc da dc).cells[o]? = e.cells[o]? := by
  have : (e.own ra rc da dc).cells = (e.cells.set 21 (.slice ra e.rik rc)).set 32 (.slice da e.dik dc) := rfl
  rw [this, List.getElem?_set_ne h2, List.getElem?_set_ne h1]
theorem val_at {C D : List Value} {o : Nat} (h : C[o]? = D[o]?) : valI C o = valI D o := by unfold valI; rw [h]
theorem str_at {C D : List Value} {o : Nat} (h : C[o]? = D[o]?) : strV C o = strV D o := by unfold strV; rw [h]
theorem boo_at {C D : List Value} {o : Nat} (h : C[o]? = D[o]?) : boolV C o = boolV D o := by unfold boolV; rw [h]
/-- Where a thing's cells are. -/
def ats : Th → List Nat
  | .int o => [o]
  | .cod o => [o]
  | .sta o => [o]
  | .fre o => [o]
  | .dat _ => []
  | .op o => [o, o + 1, o + 2, o + 3, o + 4]
  | .res o => [o, o + 1]
  | .look o => [o, o + 1, o + 2, o + 3, o + 4, o + 5, o + 6, o + 7]
  | .sht o => [o, o + 1]
theorem er1_at {C D : List Value} {items : Ws} {t : Th} (h : ∀ o ∈ ats t, C[o]? = D[o]?) : er1 C items t = er1 D items t := by
  cases t with
  | op o =>
    simp only [ats, List.mem_cons, List.not_mem_nil, or_false, forall_eq_or_imp, forall_eq] at h
    simp only [er1]
    rw [val_at h.1, str_at h.2.1, str_at h.2.2.1, val_at h.2.2.2.1, val_at h.2.2.2.2]
  | res o =>
    simp only [ats, List.mem_cons, List.not_mem_nil, or_false, forall_eq_or_imp, forall_eq] at h
    simp only [er1]
    rw [val_at h.1, val_at h.2]
  | _ => rfl
theorem wd1_at {C D : List Value} {items : Ws} {data : List UInt8} {t : Th} (h : ∀ o ∈ ats t, C[o]? = D[o]?) : wd1 C items data t = wd1 D items data t := by
  cases t with
  | op o =>
    simp only [ats, List.mem_cons, List.not_mem_nil, or_false, forall_eq_or_imp, forall_eq] at h
    simp only [wd1]
    rw [val_at h.1, str_at h.2.1, str_at h.2.2.1, val_at h.2.2.2.1, val_at h.2.2.2.2]
  | res o =>
    simp only [ats, List.mem_cons, List.not_mem_nil, or_false, forall_eq_or_imp, forall_eq] at h
    simp only [wd1]
    rw [val_at h.1, val_at h.2]
  | int o => simp only [ats, List.mem_cons, List.not_mem_nil, or_false, forall_eq] at h; simp only [wd1]; rw [val_at h]
  | cod o => simp only [ats, List.mem_cons, List.not_mem_nil, or_false, forall_eq] at h; simp only [wd1]; rw [val_at h]
  | sta o => simp only [ats, List.mem_cons, List.not_mem_nil, or_false, forall_eq] at h; simp only [wd1]; rw [val_at h]
  | fre o => simp only [ats, List.mem_cons, List.not_mem_nil, or_false, forall_eq] at h; simp only [wd1]; rw [boo_at h]
  | _ => rfl
theorem wdT_at {C D : List Value} {items : Ws} {data : List UInt8} {t : Th} (h : ∀ o ∈ ats t, C[o]? = D[o]?) : wdT C items data t = wdT D items data t := by
  cases t with
  | look o =>
    simp only [ats, List.mem_cons, List.not_mem_nil, or_false, forall_eq_or_imp, forall_eq] at h
    simp only [wdT, lookL, List.flatMap_cons, List.flatMap_nil, wd1]
    rw [val_at h.1, val_at h.2.1, val_at h.2.2.1, val_at h.2.2.2.1, val_at h.2.2.2.2.1, val_at h.2.2.2.2.2.1, val_at h.2.2.2.2.2.2.1, val_at h.2.2.2.2.2.2.2]
  | sht o =>
    simp only [ats, List.mem_cons, List.not_mem_nil, or_false, forall_eq_or_imp, forall_eq] at h
    simp only [wdT, shtL, List.flatMap_cons, List.flatMap_nil, wd1]
    rw [val_at h.1, val_at h.2]
  | op o => exact wd1_at (items := items) (data := data) h
  | res o => exact wd1_at (items := items) (data := data) h
  | int o => exact wd1_at (items := items) (data := data) h
  | cod o => exact wd1_at (items := items) (data := data) h
  | sta o => exact wd1_at (items := items) (data := data) h
  | fre o => exact wd1_at (items := items) (data := data) h
  | dat o => rfl
theorem kind_ats (k : Int) : ∀ t ∈ kindT k, ∀ o ∈ ats t, 21 ≠ o ∧ 32 ≠ o := by
  unfold kindT
  repeat' split
  all_goals decide
theorem ersL_congr {f g : Th → Int} {l : List Th} (h : ∀ t ∈ l, f t = g t) : ersL f l = ersL g l := by
  induction l with
  | nil => rfl
  | cons t r ih => rw [ersL, ersL, h t (by simp), ih (fun x hx => h x (by simp [hx]))]
theorem flat_congr {f g : Th → Ws} {l : List Th} (h : ∀ t ∈ l, f t = g t) : l.flatMap f = l.flatMap g := by
  induction l with
  | nil => rfl
  | cons t r ih => rw [List.flatMap_cons, List.flatMap_cons, h t (by simp), ih (fun x hx => h x (by simp [hx]))]
theorem Ev.own_err (e : Ev) (ra : Option Addr) (rc : Nat) (da : Option Addr) (dc : Nat) (items : Ws) : (e.own ra rc da dc).err items = e.err items := by
  unfold Ev.err
  have hk : (e.own ra rc da dc).k = e.k := rfl
  rw [Ev.own_form, hk, ersL_congr fun t ht => er1_at fun o ho => Ev.own_at e ra rc da dc (kind_ats _ t ht o ho).1 (kind_ats _ t ht o ho).2]
theorem Ev.own_words (e : Ev) (ra : Option Addr) (rc : Nat) (da : Option Addr) (dc : Nat) (items : Ws) (data : List UInt8) : (e.own ra rc da dc).words items data = e.words items data := by
  unfold Ev.words
  have hk : (e.own ra rc da dc).k = e.k := rfl
  rw [hk, flat_congr fun t ht => wdT_at fun o ho => Ev.own_at e ra rc da dc (kind_ats _ t ht o ho).1 (kind_ats _ t ht o ho).2]
theorem Ev.own_line (e : Ev) (ra : Option Addr) (rc : Nat) (da : Option Addr) (dc : Nat) (items : Ws) (data : List UInt8) : (e.own ra rc da dc).line items data = e.line items data := by
  unfold Ev.line
  rw [Ev.own_err, Ev.own_words]
end Go.Proofs.YtfeppannfcbakaaGreatDoor

namespace Go.Proofs.YtfeppannfcbakaaGreatDoor
open Go.RowKit
set_option linter.unusedVariables false
set_option maxRecDepth 100000

set_option maxHeartbeats 12800000 in
set_option maxRecDepth 1000000 in
/-- THE LAW: StoryWrites. -/
theorem writes_law {e o : Ev} {items oi : Ws} {data od : List UInt8} {w : World} (hE : En w) (hR : e.Rg) (hi : items.length = e.rik) (hd : data.length = e.dik) (hI : Rt w (.slice e.ria e.rik e.ric) items) (hD : BRd w (.slice e.dia e.dik e.dic) data) (hil : items.length * 16 ≤ 140737488355328) (hdl : data.length ≤ 140737488355328)
    (hR2 : o.Rg) (hi2 : oi.length = o.rik) (hd2 : od.length = o.dik) (hI2 : Rt w (.slice o.ria o.rik o.ric) oi) (hD2 : BRd w (.slice o.dia o.dik o.dic) od) (hil2 : oi.length * 16 ≤ 140737488355328) (hdl2 : od.length ≤ 140737488355328) :
    Calls Tryz.prog 3 #[.agg e.cells.toArray, .agg o.cells.toArray] w fun r w' => r = .returned (.bool true) ∧ Below w.heap.size w w' := by
  have hE' : ∀ W, All [inC w] W → En W := fun W hW => hE.later (hW.into (List.mem_cons_self))
  have hI' : ∀ W, All [inC w] W → Rt W (.slice e.ria e.rik e.ric) items := fun W hW => hI.later (hW.into (List.mem_cons_self))
  have hD' : ∀ W, All [inC w] W → BRd W (.slice e.dia e.dik e.dic) data := fun W hW => hD.later (hW.into (List.mem_cons_self))
  have hI2' : ∀ W, All [inC w] W → Rt W (.slice o.ria o.rik o.ric) oi := fun W hW => hI2.later (hW.into (List.mem_cons_self))
  have hD2' : ∀ W, All [inC w] W → BRd W (.slice o.dia o.dik o.dic) od := fun W hW => hD2.later (hW.into (List.mem_cons_self))
  have hil' : items.length ≤ 140737488355328 := by omega
  have hil2' : oi.length ≤ 140737488355328 := by omega
  have A1 := hid ((All.came w).addBlk e.cells 36)
  have A2 := hid (A1.out.addBlk o.cells 36)
  have sz : ∀ (V : World) (o : Obj), (V.alloc o).heap.size = V.heap.size + 1 := fun V o => by simp
  rw [sz] at A2
  have HB1 : Hid (∀ W ds, All (ds ++ blkC (w.heap.size + 1) o.cells 36 :: blkC w.heap.size e.cells 36 :: [inC w]) W → W.heap[w.heap.size]? = some (.cells e.cells.toArray 36 (0, 0))) := hid (fun W ds h => h.blk (by simp))
  have HG1 : Hid (∀ W ds, All (ds ++ blkC (w.heap.size + 1) o.cells 36 :: blkC w.heap.size e.cells 36 :: [inC w]) W → W.rangeAt w.heap.size 0 e.cells) := hid (fun W ds h => range_in (C := e.cells) (t := 36) h (by simp) (fun j v hv => by rw [Nat.zero_add]; exact hv))
  have I4 : Hid ((Tryz.prog.info? 36).map (·.size) = some e.cells.length) := hid (by kernel_rfl)
  have HB2 : Hid (∀ W ds, All (ds ++ blkC (w.heap.size + 1) o.cells 36 :: blkC w.heap.size e.cells 36 :: [inC w]) W → W.heap[w.heap.size + 1]? = some (.cells o.cells.toArray 36 (0, 0))) := hid (fun W ds h => h.blk (by simp))
  have CS := hid (shown_any (cs := blkC (w.heap.size + 1) o.cells 36 :: blkC w.heap.size e.cells 36 :: [inC w]) (fun W hW => hE' W hW.tail.tail) A2.out)
  have CO := hid (fun W (h : All (blkC (w.heap.size + 1) o.cells 36 :: blkC w.heap.size e.cells 36 :: [inC w]) W) => one_any hi hd (fun W h => hI' W h.tail.tail) (fun W h => hD' W h.tail.tail) hil hdl h)
  have CL1 : Hid (∀ (ra : Option Addr) (rc : Nat) (da : Option Addr) (dc : Nat) (c1 c2 : Comp) W, All (c1 :: c2 :: ownC 9 (.slice ra e.rik rc) (txW items) :: ownC 5 (.slice da e.dik dc) (cellsB data) :: blkC (w.heap.size + 1) o.cells 36 :: blkC w.heap.size e.cells 36 :: [inC w]) W → Calls Tryz.prog 11 #[.agg (e.own ra rc da dc).cells.toArray] W fun r w' => r = .returned (.tuple #[.string ⟨(e.line items data).toArray⟩, .int .i64 (e.err items)]) ∧ All (c1 :: c2 :: ownC 9 (.slice ra e.rik rc) (txW items) :: ownC 5 (.slice da e.dik dc) (cellsB data) :: blkC (w.heap.size + 1) o.cells 36 :: blkC w.heap.size e.cells 36 :: [inC w]) w') := hid (fun ra rc da dc c1 c2 W h => by
    have := Line_ev (e := e.own ra rc da dc) (fun V hV => hE' V hV.tail.tail.tail.tail.tail.tail) (Ev.own_rg hR ra rc da dc) hd hil' (fun V hV => rt_mem hV (by simp [Ev.own])) (fun V hV => brd_mem hV (by simp [Ev.own])) h
    rw [Ev.own_line, Ev.own_err] at this
    exact this)
  have CL2 : Hid (∀ (c1 c2 c3 c4 : Comp) W, All (c1 :: c2 :: c3 :: c4 :: blkC (w.heap.size + 1) o.cells 36 :: blkC w.heap.size e.cells 36 :: [inC w]) W → Calls Tryz.prog 11 #[.agg o.cells.toArray] W fun r w' => r = .returned (.tuple #[.string ⟨(o.line oi od).toArray⟩, .int .i64 (o.err oi)]) ∧ All (c1 :: c2 :: c3 :: c4 :: blkC (w.heap.size + 1) o.cells 36 :: blkC w.heap.size e.cells 36 :: [inC w]) w') := hid (fun c1 c2 c3 c4 W h =>
    Line_ev (fun V hV => hE' V hV.tail.tail.tail.tail.tail.tail) hR2 hd2 hil2' (fun V hV => hI2' V hV.tail.tail.tail.tail.tail.tail) (fun V hV => hD2' V hV.tail.tail.tail.tail.tail.tail) h)
  have CR1 : Hid (∀ (c1 c2 c3 c4 : Comp) W, All (c1 :: c2 :: c3 :: c4 :: blkC (w.heap.size + 1) o.cells 36 :: blkC w.heap.size e.cells 36 :: [inC w]) W → Calls Tryz.prog 12 #[.agg e.cells.toArray] W fun r w' => r = .returned (.tuple #[.string ⟨(e.line items data).toArray⟩, .int .i64 (e.err items)]) ∧ All (c1 :: c2 :: c3 :: c4 :: blkC (w.heap.size + 1) o.cells 36 :: blkC w.heap.size e.cells 36 :: [inC w]) w') := hid (fun c1 c2 c3 c4 W h =>
    rLine_any e hR hd hil' (fun V hV => hI' V hV.tail.tail.tail.tail.tail.tail) (fun V hV => hD' V hV.tail.tail.tail.tail.tail.tail) h)
  have CR2 : Hid (∀ (c1 c2 c3 c4 : Comp) W, All (c1 :: c2 :: c3 :: c4 :: blkC (w.heap.size + 1) o.cells 36 :: blkC w.heap.size e.cells 36 :: [inC w]) W → Calls Tryz.prog 12 #[.agg o.cells.toArray] W fun r w' => r = .returned (.tuple #[.string ⟨(o.line oi od).toArray⟩, .int .i64 (o.err oi)]) ∧ All (c1 :: c2 :: c3 :: c4 :: blkC (w.heap.size + 1) o.cells 36 :: blkC w.heap.size e.cells 36 :: [inC w]) w') := hid (fun c1 c2 c3 c4 W h =>
    rLine_any o hR2 hd2 hil2' (fun V hV => hI2' V hV.tail.tail.tail.tail.tail.tail) (fun V hV => hD2' V hV.tail.tail.tail.tail.tail.tail) h)
  have CE : Hid (∀ (ra : Option Addr) (rc : Nat) (da : Option Addr) (dc : Nat) (c1 c2 : Comp) W, All (c1 :: c2 :: ownC 9 (.slice ra e.rik rc) (txW items) :: ownC 5 (.slice da e.dik dc) (cellsB data) :: blkC (w.heap.size + 1) o.cells 36 :: blkC w.heap.size e.cells 36 :: [inC w]) W → Calls Tryz.prog 13 #[.agg (e.own ra rc da dc).cells.toArray, .agg e.cells.toArray] W fun r w' => r = .returned (.bool true) ∧ All (c1 :: c2 :: ownC 9 (.slice ra e.rik rc) (txW items) :: ownC 5 (.slice da e.dik dc) (cellsB data) :: blkC (w.heap.size + 1) o.cells 36 :: blkC w.heap.size e.cells 36 :: [inC w]) w') := hid (fun ra rc da dc c1 c2 W h =>
    (sameEvent_true e (r1 := .slice ra e.rik rc) (r2 := .slice e.ria e.rik e.ric) (d1 := .slice da e.dik dc) (d2 := .slice e.dia e.dik e.dic) h (fun V hV => rt_mem hV (by simp)) (fun V hV => hI' V hV.tail.tail.tail.tail.tail.tail) (fun V hV => brd_mem hV (by simp)) (fun V hV => hD' V hV.tail.tail.tail.tail.tail.tail) hil' hdl).mono fun r w' hr => hr)
  have I1 : Hid ((Tryz.prog.info? 36).map (·.size) = some e.cells.toArray.size) := hid (by kernel_rfl)
  have I2 : Hid ((Tryz.prog.info? 36).map (·.size) = some o.cells.toArray.size) := hid (by kernel_rfl)
  have I3 : Hid (∀ a c ao cc, (Tryz.prog.info? 36).map (·.size) = some (e.own a c ao cc).cells.length) := hid (fun _ _ _ _ => by kernel_rfl)
  clear hE hE' hI hI' hD hD' hR hi hd hil hil' hdl hI2 hI2' hD2 hD2' hR2 hi2 hd2 hil2 hil2' hdl2 sz A1
  generalize e.err items = X1 at *
  generalize o.err oi = X2 at *
  generalize ByteArray.mk (e.line items data).toArray = L1 at *
  generalize ByteArray.mk (o.line oi od).toArray = L2 at *
  generalize e.cells = EC at *
  generalize o.cells = OC at *
  generalize e.rik = rik at *
  generalize e.dik = dik at *
  have t1 : (X1 == X1) = true := by simp
  have t2 : (X2 == X2) = true := by simp
  have t3 : (L1.toList == L1.toList) = true := by simp
  have t4 : (L2.toList == L2.toList) = true := by simp
  go_enter Tryz.func3, Tryz.ntmps3
  go_upto_region 1 with fail
  generalize (w.alloc (.cells EC.toArray 36)).alloc (.cells OC.toArray 36) = w0 at *
  go_upto_region 3 with (go_at_call 9; refine CS.out.mono ?_; rintro r w1 ⟨rfl, B1⟩; have K1 := hid B1; have b1 := hid (HB1.out _ [] B1); clear B1)
  go_upto_region 4 with (first | (refine wpList_load_row rfl 36 _ rfl w.heap.size rfl 36 EC.toArray (0, 0) _ b1.out Tryz.underlying36 rfl I1.out ?_) | (go_at_call 10; refine (CO.out _ K1.out).mono ?_; rintro r w2 ⟨ra, rc, da, dc, ao1, c1, ao2, c2, rfl, B2⟩; have K2 := hid B2; clear B2))
  obtain ⟨g2, rfl, _, _⟩ := row_at (K2.out.1.2.1) (k := 0) (u := .slice ao1 1 c1) rfl
  obtain ⟨g1, rfl, _, _⟩ := row_at (K2.out.tail.1.2.1) (k := 0) rfl
  have Y2 : Hid (∀ W ds, All (rowC 42 1 (.slice (some ⟨g2, 0, none⟩) 1 c2) 1 [.slice (some ⟨g1, 0, none⟩) 1 c1] :: ds) W → W.cell? ⟨g2, 0, none⟩ = some (.slice (some ⟨g1, 0, none⟩) 1 c1)) := hid (fun W ds h => by
    obtain ⟨g, e1, _, h2⟩ := row_at h.1.2.1 (k := 0) (u := .slice (some ⟨g1, 0, none⟩) 1 c1) rfl
    cases e1
    exact h2)
  have Y1 : Hid (∀ W c0 ds, All (c0 :: rowC 36 33 (.slice (some ⟨g1, 0, none⟩) 1 c1) 1 (e.own ra rc da dc).cells :: ds) W → W.rangeAt g1 0 (e.own ra rc da dc).cells) := hid (fun W c0 ds h j v hv => by
    obtain ⟨g, e1, _, h2⟩ := row_at h.tail.1.2.1 hv
    cases e1
    rw [Nat.zero_add]
    exact h2)
  have J3 := hid (I3.out ra rc da dc)
  have DL := hid (CL1.out ra rc da dc)
  have DE := hid (CE.out ra rc da dc)
  clear CL1 CE I3
  generalize (e.own ra rc da dc).cells = XC at *
  have y2 := Y2.out _ _ K2.out
  have y1 := hid (Y1.out _ _ _ K2.out)
  go_upto_region 5 with (first | (refine wpList_load_mid rfl 36 _ rfl g1 0 rfl XC _ y1.out Tryz.underlying36 rfl J3.out ?_) | (go_at_call 11; refine (DL.out _ _ _ K2.out).mono ?_; rintro r w3 ⟨rfl, B3⟩; have K3 := hid B3; have b3 := hid (HB2.out _ [_, _, _, _] B3); clear B3))
  go_upto_region 6 with (first | (refine wpList_load_row rfl 36 _ rfl (w.heap.size + 1) rfl 36 OC.toArray (0, 0) _ b3.out Tryz.underlying36 rfl I2.out ?_) | (go_at_call 11; refine (CL2.out _ _ _ _ _ K3.out).mono ?_; rintro r w4 ⟨rfl, B4⟩; have K4 := hid B4; clear B4))
  have z2 := Y2.out _ _ K4.out
  have z1 := hid (Y1.out _ _ _ K4.out)
  go_upto_region 7 with (first | (refine wpList_load_mid rfl 36 _ rfl g1 0 rfl XC _ z1.out Tryz.underlying36 rfl J3.out ?_) | (go_at_call 11; refine (DL.out _ _ _ K4.out).mono ?_; rintro r w5 ⟨rfl, B5⟩; have K5 := hid B5; have b5 := hid (HB1.out _ [_, _, _, _] B5); clear B5))
  go_upto_region 8 with (first | (refine wpList_load_row rfl 36 _ rfl w.heap.size rfl 36 EC.toArray (0, 0) _ b5.out Tryz.underlying36 rfl I1.out ?_) | (go_at_call 12; refine (CR1.out _ _ _ _ _ K5.out).mono ?_; rintro r w6 ⟨rfl, B6⟩; have K6 := hid B6; have b6 := hid (HB2.out _ [_, _, _, _] B6); clear B6))
  go_upto_region 9 with (first | (refine wpList_load_row rfl 36 _ rfl (w.heap.size + 1) rfl 36 OC.toArray (0, 0) _ b6.out Tryz.underlying36 rfl I2.out ?_) | (go_at_call 12; refine (CR2.out _ _ _ _ _ K6.out).mono ?_; rintro r w7 ⟨rfl, B7⟩; have K7 := hid B7; clear B7))
  have v2 := Y2.out _ _ K7.out
  have v1 := hid (Y1.out _ _ _ K7.out)
  have v0 := hid (HG1.out _ [_, _, _, _] K7.out)
  -- MARK
  refine wp_region_held_drew (S := (fun W => W.cell? ⟨g2, 0, none⟩ = some (.slice (some ⟨g1, 0, none⟩) 1 c1) ∧ W.rangeAt g1 0 XC ∧ W.rangeAt w.heap.size 0 EC)) (by kernel_rfl) ⟨v2, v1.out, v0.out⟩ (fun hHeld => ?_)
  refine wpAnyH_take (i := 0) (oi := { dst := Option.some 53, op := Go.Op.move (Go.Operand.tmp 7), type := 22, pos := "law.go:35", after := #[], guard := Option.none }) (v := ?_) rfl (by kernel_rfl) (by kernel_rfl) (by kernel_rfl) (fun _ _ _ h => h) (Or.inl ⟨by rfl, ?_⟩) hHeld ?_
  rotate_left
  · intro W hSw
    obtain ⟨s1, s2, s3⟩ := hSw
    go_simp
    (try with_reducible rfl)
  (try simp only [Act.put, List.setIfInBounds_toArray, List.set_cons_zero, List.set_cons_succ])
  refine wpAnyH_take (i := 1) (oi := { dst := Option.some 54, op := Go.Op.move (Go.Operand.tmp 13), type := 22, pos := "law.go:35", after := #[], guard := Option.none }) (v := ?_) rfl (by kernel_rfl) (by kernel_rfl) (by kernel_rfl) (fun _ _ _ h => h) (Or.inl ⟨by rfl, ?_⟩) hHeld ?_
  rotate_left
  · intro W hSw
    obtain ⟨s1, s2, s3⟩ := hSw
    go_simp
    (try with_reducible rfl)
  (try simp only [Act.put, List.setIfInBounds_toArray, List.set_cons_zero, List.set_cons_succ])
  refine wpAnyH_take (i := 2) (oi := { dst := Option.some 55, op := Go.Op.binOp Go.BinOp.eql 22 (Go.Operand.tmp 53) (Go.Operand.tmp 54) 22, type := 4, pos := "law.go:35", after := #[{ on := 0, ground := Go.Ground.data }, { on := 1, ground := Go.Ground.data }], guard := Option.none }) (v := .bool true) rfl (by kernel_rfl) (by kernel_rfl) (by kernel_rfl) (fun _ _ _ h => h) (Or.inl ⟨by rfl, ?_⟩) hHeld ?_
  · intro W hSw
    go_simp
  (try simp only [Act.put, List.setIfInBounds_toArray, List.set_cons_zero, List.set_cons_succ])
  refine wpAnyH_take (i := 3) (oi := { dst := Option.some 56, op := Go.Op.move (Go.Operand.tmp 55), type := 4, pos := "law.go:35", after := #[{ on := 2, ground := Go.Ground.data }], guard := Option.none }) (v := ?_) rfl (by kernel_rfl) (by kernel_rfl) (by kernel_rfl) (fun _ _ _ h => h) (Or.inl ⟨by rfl, ?_⟩) hHeld ?_
  rotate_left
  · intro W hSw
    obtain ⟨s1, s2, s3⟩ := hSw
    go_simp
    (try with_reducible rfl)
  (try simp only [Act.put, List.setIfInBounds_toArray, List.set_cons_zero, List.set_cons_succ])
  refine wpAnyH_take (i := 4) (oi := { dst := Option.some 57, op := Go.Op.move (Go.Operand.tmp 9), type := 22, pos := "law.go:35", after := #[{ on := 3, ground := Go.Ground.guard }], guard := Option.some (3, Bool.true) }) (v := ?_) rfl (by kernel_rfl) (by kernel_rfl) (by kernel_rfl) (fun _ _ _ h => h) (Or.inl ⟨by rfl, ?_⟩) hHeld ?_
  rotate_left
  · intro W hSw
    obtain ⟨s1, s2, s3⟩ := hSw
    go_simp
    (try with_reducible rfl)
  (try simp only [Act.put, List.setIfInBounds_toArray, List.set_cons_zero, List.set_cons_succ])
  refine wpAnyH_take (i := 5) (oi := { dst := Option.some 58, op := Go.Op.move (Go.Operand.tmp 15), type := 22, pos := "law.go:35", after := #[{ on := 3, ground := Go.Ground.guard }], guard := Option.some (3, Bool.true) }) (v := ?_) rfl (by kernel_rfl) (by kernel_rfl) (by kernel_rfl) (fun _ _ _ h => h) (Or.inl ⟨by rfl, ?_⟩) hHeld ?_
  rotate_left
  · intro W hSw
    obtain ⟨s1, s2, s3⟩ := hSw
    go_simp
    (try with_reducible rfl)
  (try simp only [Act.put, List.setIfInBounds_toArray, List.set_cons_zero, List.set_cons_succ])
  refine wpAnyH_take (i := 6) (oi := { dst := Option.some 59, op := Go.Op.binOp Go.BinOp.eql 22 (Go.Operand.tmp 57) (Go.Operand.tmp 58) 22, type := 4, pos := "law.go:35", after := #[{ on := 4, ground := Go.Ground.data }, { on := 5, ground := Go.Ground.data }, { on := 3, ground := Go.Ground.guard }], guard := Option.some (3, Bool.true) }) (v := .bool true) rfl (by kernel_rfl) (by kernel_rfl) (by kernel_rfl) (fun _ _ _ h => h) (Or.inl ⟨by rfl, ?_⟩) hHeld ?_
  · intro W hSw
    go_simp
  (try simp only [Act.put, List.setIfInBounds_toArray, List.set_cons_zero, List.set_cons_succ])
  refine wpAnyH_take (i := 7) (oi := { dst := Option.some 60, op := Go.Op.pick (Go.Operand.tmp 56) (Go.Operand.tmp 59) (Go.Operand.const (Go.Value.bool Bool.false)), type := 4, pos := "law.go:35", after := #[{ on := 3, ground := Go.Ground.data }, { on := 6, ground := Go.Ground.data }], guard := Option.none }) (v := ?_) rfl (by kernel_rfl) (by kernel_rfl) (by kernel_rfl) (fun _ _ _ h => h) (Or.inl ⟨by rfl, ?_⟩) hHeld ?_
  rotate_left
  · intro W hSw
    obtain ⟨s1, s2, s3⟩ := hSw
    go_simp
    (try with_reducible rfl)
  (try simp only [Act.put, List.setIfInBounds_toArray, List.set_cons_zero, List.set_cons_succ])
  refine wpAnyH_take (i := 8) (oi := { dst := Option.some 61, op := Go.Op.move (Go.Operand.tmp 60), type := 4, pos := "law.go:35", after := #[{ on := 7, ground := Go.Ground.data }, { on := 3, ground := Go.Ground.chain }], guard := Option.none }) (v := ?_) rfl (by kernel_rfl) (by kernel_rfl) (by kernel_rfl) (fun _ _ _ h => h) (Or.inl ⟨by rfl, ?_⟩) hHeld ?_
  rotate_left
  · intro W hSw
    obtain ⟨s1, s2, s3⟩ := hSw
    go_simp
    (try with_reducible rfl)
  (try simp only [Act.put, List.setIfInBounds_toArray, List.set_cons_zero, List.set_cons_succ])
  refine wpAnyH_take (i := 9) (oi := { dst := Option.some 62, op := Go.Op.move (Go.Operand.tmp 11), type := 22, pos := "law.go:35", after := #[{ on := 8, ground := Go.Ground.guard }], guard := Option.some (8, Bool.true) }) (v := ?_) rfl (by kernel_rfl) (by kernel_rfl) (by kernel_rfl) (fun _ _ _ h => h) (Or.inl ⟨by rfl, ?_⟩) hHeld ?_
  rotate_left
  · intro W hSw
    obtain ⟨s1, s2, s3⟩ := hSw
    go_simp
    (try with_reducible rfl)
  (try simp only [Act.put, List.setIfInBounds_toArray, List.set_cons_zero, List.set_cons_succ])
  refine wpAnyH_take (i := 10) (oi := { dst := Option.some 63, op := Go.Op.move (Go.Operand.tmp 13), type := 22, pos := "law.go:35", after := #[{ on := 8, ground := Go.Ground.guard }], guard := Option.some (8, Bool.true) }) (v := ?_) rfl (by kernel_rfl) (by kernel_rfl) (by kernel_rfl) (fun _ _ _ h => h) (Or.inl ⟨by rfl, ?_⟩) hHeld ?_
  rotate_left
  · intro W hSw
    obtain ⟨s1, s2, s3⟩ := hSw
    go_simp
    (try with_reducible rfl)
  (try simp only [Act.put, List.setIfInBounds_toArray, List.set_cons_zero, List.set_cons_succ])
  refine wpAnyH_take (i := 11) (oi := { dst := Option.some 64, op := Go.Op.binOp Go.BinOp.eql 22 (Go.Operand.tmp 62) (Go.Operand.tmp 63) 22, type := 4, pos := "law.go:35", after := #[{ on := 9, ground := Go.Ground.data }, { on := 10, ground := Go.Ground.data }, { on := 8, ground := Go.Ground.guard }], guard := Option.some (8, Bool.true) }) (v := .bool true) rfl (by kernel_rfl) (by kernel_rfl) (by kernel_rfl) (fun _ _ _ h => h) (Or.inl ⟨by rfl, ?_⟩) hHeld ?_
  · intro W hSw
    go_simp
  (try simp only [Act.put, List.setIfInBounds_toArray, List.set_cons_zero, List.set_cons_succ])
  refine wpAnyH_take (i := 12) (oi := { dst := Option.some 65, op := Go.Op.pick (Go.Operand.tmp 61) (Go.Operand.tmp 64) (Go.Operand.const (Go.Value.bool Bool.false)), type := 4, pos := "law.go:35", after := #[{ on := 8, ground := Go.Ground.data }, { on := 11, ground := Go.Ground.data }], guard := Option.none }) (v := ?_) rfl (by kernel_rfl) (by kernel_rfl) (by kernel_rfl) (fun _ _ _ h => h) (Or.inl ⟨by rfl, ?_⟩) hHeld ?_
  rotate_left
  · intro W hSw
    obtain ⟨s1, s2, s3⟩ := hSw
    go_simp
    (try with_reducible rfl)
  (try simp only [Act.put, List.setIfInBounds_toArray, List.set_cons_zero, List.set_cons_succ])
  refine wpAnyH_take (i := 13) (oi := { dst := Option.some 66, op := Go.Op.move (Go.Operand.tmp 65), type := 4, pos := "law.go:35", after := #[{ on := 12, ground := Go.Ground.data }, { on := 8, ground := Go.Ground.chain }], guard := Option.none }) (v := ?_) rfl (by kernel_rfl) (by kernel_rfl) (by kernel_rfl) (fun _ _ _ h => h) (Or.inl ⟨by rfl, ?_⟩) hHeld ?_
  rotate_left
  · intro W hSw
    obtain ⟨s1, s2, s3⟩ := hSw
    go_simp
    (try with_reducible rfl)
  (try simp only [Act.put, List.setIfInBounds_toArray, List.set_cons_zero, List.set_cons_succ])
  refine wpAnyH_take (i := 14) (oi := { dst := Option.some 67, op := Go.Op.move (Go.Operand.tmp 6), type := 9, pos := "law.go:35", after := #[{ on := 13, ground := Go.Ground.guard }], guard := Option.some (13, Bool.true) }) (v := ?_) rfl (by kernel_rfl) (by kernel_rfl) (by kernel_rfl) (fun _ _ _ h => h) (Or.inl ⟨by rfl, ?_⟩) hHeld ?_
  rotate_left
  · intro W hSw
    obtain ⟨s1, s2, s3⟩ := hSw
    go_simp
    (try with_reducible rfl)
  (try simp only [Act.put, List.setIfInBounds_toArray, List.set_cons_zero, List.set_cons_succ])
  refine wpAnyH_take (i := 15) (oi := { dst := Option.some 68, op := Go.Op.move (Go.Operand.tmp 12), type := 9, pos := "law.go:35", after := #[{ on := 13, ground := Go.Ground.guard }], guard := Option.some (13, Bool.true) }) (v := ?_) rfl (by kernel_rfl) (by kernel_rfl) (by kernel_rfl) (fun _ _ _ h => h) (Or.inl ⟨by rfl, ?_⟩) hHeld ?_
  rotate_left
  · intro W hSw
    obtain ⟨s1, s2, s3⟩ := hSw
    go_simp
    (try with_reducible rfl)
  (try simp only [Act.put, List.setIfInBounds_toArray, List.set_cons_zero, List.set_cons_succ])
  refine wpAnyH_take (i := 16) (oi := { dst := Option.some 69, op := Go.Op.binOp Go.BinOp.eql 9 (Go.Operand.tmp 67) (Go.Operand.tmp 68) 9, type := 4, pos := "law.go:35", after := #[{ on := 14, ground := Go.Ground.data }, { on := 15, ground := Go.Ground.data }, { on := 13, ground := Go.Ground.guard }], guard := Option.some (13, Bool.true) }) (v := .bool true) rfl (by kernel_rfl) (by kernel_rfl) (by kernel_rfl) (fun _ _ _ h => h) (Or.inl ⟨by rfl, ?_⟩) hHeld ?_
  · intro W hSw
    go_simp
  (try simp only [Act.put, List.setIfInBounds_toArray, List.set_cons_zero, List.set_cons_succ])
  refine wpAnyH_take (i := 17) (oi := { dst := Option.some 70, op := Go.Op.pick (Go.Operand.tmp 66) (Go.Operand.tmp 69) (Go.Operand.const (Go.Value.bool Bool.false)), type := 4, pos := "law.go:35", after := #[{ on := 13, ground := Go.Ground.data }, { on := 16, ground := Go.Ground.data }], guard := Option.none }) (v := ?_) rfl (by kernel_rfl) (by kernel_rfl) (by kernel_rfl) (fun _ _ _ h => h) (Or.inl ⟨by rfl, ?_⟩) hHeld ?_
  rotate_left
  · intro W hSw
    obtain ⟨s1, s2, s3⟩ := hSw
    go_simp
    (try with_reducible rfl)
  (try simp only [Act.put, List.setIfInBounds_toArray, List.set_cons_zero, List.set_cons_succ])
  refine wpAnyH_take (i := 18) (oi := { dst := Option.some 71, op := Go.Op.move (Go.Operand.tmp 70), type := 4, pos := "law.go:35", after := #[{ on := 17, ground := Go.Ground.data }, { on := 13, ground := Go.Ground.chain }], guard := Option.none }) (v := ?_) rfl (by kernel_rfl) (by kernel_rfl) (by kernel_rfl) (fun _ _ _ h => h) (Or.inl ⟨by rfl, ?_⟩) hHeld ?_
  rotate_left
  · intro W hSw
    obtain ⟨s1, s2, s3⟩ := hSw
    go_simp
    (try with_reducible rfl)
  (try simp only [Act.put, List.setIfInBounds_toArray, List.set_cons_zero, List.set_cons_succ])
  refine wpAnyH_take (i := 19) (oi := { dst := Option.some 72, op := Go.Op.move (Go.Operand.tmp 8), type := 9, pos := "law.go:35", after := #[{ on := 18, ground := Go.Ground.guard }], guard := Option.some (18, Bool.true) }) (v := ?_) rfl (by kernel_rfl) (by kernel_rfl) (by kernel_rfl) (fun _ _ _ h => h) (Or.inl ⟨by rfl, ?_⟩) hHeld ?_
  rotate_left
  · intro W hSw
    obtain ⟨s1, s2, s3⟩ := hSw
    go_simp
    (try with_reducible rfl)
  (try simp only [Act.put, List.setIfInBounds_toArray, List.set_cons_zero, List.set_cons_succ])
  refine wpAnyH_take (i := 20) (oi := { dst := Option.some 73, op := Go.Op.move (Go.Operand.tmp 14), type := 9, pos := "law.go:35", after := #[{ on := 18, ground := Go.Ground.guard }], guard := Option.some (18, Bool.true) }) (v := ?_) rfl (by kernel_rfl) (by kernel_rfl) (by kernel_rfl) (fun _ _ _ h => h) (Or.inl ⟨by rfl, ?_⟩) hHeld ?_
  rotate_left
  · intro W hSw
    obtain ⟨s1, s2, s3⟩ := hSw
    go_simp
    (try with_reducible rfl)
  (try simp only [Act.put, List.setIfInBounds_toArray, List.set_cons_zero, List.set_cons_succ])
  refine wpAnyH_take (i := 21) (oi := { dst := Option.some 74, op := Go.Op.binOp Go.BinOp.eql 9 (Go.Operand.tmp 72) (Go.Operand.tmp 73) 9, type := 4, pos := "law.go:35", after := #[{ on := 19, ground := Go.Ground.data }, { on := 20, ground := Go.Ground.data }, { on := 18, ground := Go.Ground.guard }], guard := Option.some (18, Bool.true) }) (v := .bool true) rfl (by kernel_rfl) (by kernel_rfl) (by kernel_rfl) (fun _ _ _ h => h) (Or.inl ⟨by rfl, ?_⟩) hHeld ?_
  · intro W hSw
    go_simp
  (try simp only [Act.put, List.setIfInBounds_toArray, List.set_cons_zero, List.set_cons_succ])
  refine wpAnyH_take (i := 22) (oi := { dst := Option.some 75, op := Go.Op.pick (Go.Operand.tmp 71) (Go.Operand.tmp 74) (Go.Operand.const (Go.Value.bool Bool.false)), type := 4, pos := "law.go:35", after := #[{ on := 18, ground := Go.Ground.data }, { on := 21, ground := Go.Ground.data }], guard := Option.none }) (v := ?_) rfl (by kernel_rfl) (by kernel_rfl) (by kernel_rfl) (fun _ _ _ h => h) (Or.inl ⟨by rfl, ?_⟩) hHeld ?_
  rotate_left
  · intro W hSw
    obtain ⟨s1, s2, s3⟩ := hSw
    go_simp
    (try with_reducible rfl)
  (try simp only [Act.put, List.setIfInBounds_toArray, List.set_cons_zero, List.set_cons_succ])
  refine wpAnyH_take (i := 23) (oi := { dst := Option.some 76, op := Go.Op.move (Go.Operand.tmp 75), type := 4, pos := "law.go:35", after := #[{ on := 22, ground := Go.Ground.data }, { on := 18, ground := Go.Ground.chain }], guard := Option.none }) (v := ?_) rfl (by kernel_rfl) (by kernel_rfl) (by kernel_rfl) (fun _ _ _ h => h) (Or.inl ⟨by rfl, ?_⟩) hHeld ?_
  rotate_left
  · intro W hSw
    obtain ⟨s1, s2, s3⟩ := hSw
    go_simp
    (try with_reducible rfl)
  (try simp only [Act.put, List.setIfInBounds_toArray, List.set_cons_zero, List.set_cons_succ])
  refine wpAnyH_take (i := 24) (oi := { dst := Option.some 77, op := Go.Op.move (Go.Operand.tmp 10), type := 9, pos := "law.go:35", after := #[{ on := 23, ground := Go.Ground.guard }], guard := Option.some (23, Bool.true) }) (v := ?_) rfl (by kernel_rfl) (by kernel_rfl) (by kernel_rfl) (fun _ _ _ h => h) (Or.inl ⟨by rfl, ?_⟩) hHeld ?_
  rotate_left
  · intro W hSw
    obtain ⟨s1, s2, s3⟩ := hSw
    go_simp
    (try with_reducible rfl)
  (try simp only [Act.put, List.setIfInBounds_toArray, List.set_cons_zero, List.set_cons_succ])
  refine wpAnyH_take (i := 25) (oi := { dst := Option.some 78, op := Go.Op.move (Go.Operand.tmp 12), type := 9, pos := "law.go:35", after := #[{ on := 23, ground := Go.Ground.guard }], guard := Option.some (23, Bool.true) }) (v := ?_) rfl (by kernel_rfl) (by kernel_rfl) (by kernel_rfl) (fun _ _ _ h => h) (Or.inl ⟨by rfl, ?_⟩) hHeld ?_
  rotate_left
  · intro W hSw
    obtain ⟨s1, s2, s3⟩ := hSw
    go_simp
    (try with_reducible rfl)
  (try simp only [Act.put, List.setIfInBounds_toArray, List.set_cons_zero, List.set_cons_succ])
  refine wpAnyH_take (i := 26) (oi := { dst := Option.some 79, op := Go.Op.binOp Go.BinOp.eql 9 (Go.Operand.tmp 77) (Go.Operand.tmp 78) 9, type := 4, pos := "law.go:35", after := #[{ on := 24, ground := Go.Ground.data }, { on := 25, ground := Go.Ground.data }, { on := 23, ground := Go.Ground.guard }], guard := Option.some (23, Bool.true) }) (v := .bool true) rfl (by kernel_rfl) (by kernel_rfl) (by kernel_rfl) (fun _ _ _ h => h) (Or.inl ⟨by rfl, ?_⟩) hHeld ?_
  · intro W hSw
    go_simp
  (try simp only [Act.put, List.setIfInBounds_toArray, List.set_cons_zero, List.set_cons_succ])
  refine wpAnyH_take (i := 27) (oi := { dst := Option.some 80, op := Go.Op.pick (Go.Operand.tmp 76) (Go.Operand.tmp 79) (Go.Operand.const (Go.Value.bool Bool.false)), type := 4, pos := "law.go:35", after := #[{ on := 23, ground := Go.Ground.data }, { on := 26, ground := Go.Ground.data }], guard := Option.none }) (v := ?_) rfl (by kernel_rfl) (by kernel_rfl) (by kernel_rfl) (fun _ _ _ h => h) (Or.inl ⟨by rfl, ?_⟩) hHeld ?_
  rotate_left
  · intro W hSw
    obtain ⟨s1, s2, s3⟩ := hSw
    go_simp
    (try with_reducible rfl)
  (try simp only [Act.put, List.setIfInBounds_toArray, List.set_cons_zero, List.set_cons_succ])
  refine wpAnyH_take (i := 28) (oi := { dst := Option.some 81, op := Go.Op.move (Go.Operand.tmp 80), type := 4, pos := "law.go:35", after := #[{ on := 27, ground := Go.Ground.data }, { on := 23, ground := Go.Ground.chain }], guard := Option.none }) (v := ?_) rfl (by kernel_rfl) (by kernel_rfl) (by kernel_rfl) (fun _ _ _ h => h) (Or.inl ⟨by rfl, ?_⟩) hHeld ?_
  rotate_left
  · intro W hSw
    obtain ⟨s1, s2, s3⟩ := hSw
    go_simp
    (try with_reducible rfl)
  (try simp only [Act.put, List.setIfInBounds_toArray, List.set_cons_zero, List.set_cons_succ])
  refine wpAnyH_take (i := 29) (oi := { dst := Option.some 82, op := Go.Op.move (Go.Operand.tmp 5), type := 38, pos := "law.go:35", after := #[{ on := 28, ground := Go.Ground.guard }], guard := Option.some (28, Bool.true) }) (v := ?_) rfl (by kernel_rfl) (by kernel_rfl) (by kernel_rfl) (fun _ _ _ h => h) (Or.inl ⟨by rfl, ?_⟩) hHeld ?_
  rotate_left
  · intro W hSw
    obtain ⟨s1, s2, s3⟩ := hSw
    go_simp
    (try with_reducible rfl)
  (try simp only [Act.put, List.setIfInBounds_toArray, List.set_cons_zero, List.set_cons_succ])
  refine wpAnyH_take (i := 30) (oi := { dst := Option.some 83, op := Go.Op.indexAddr 38 (Go.Operand.tmp 82) (Go.Operand.const (Go.Value.int Go.IntKind.i64 0)), type := 0, pos := "law.go:35", after := #[{ on := 29, ground := Go.Ground.data }, { on := 28, ground := Go.Ground.guard }], guard := Option.some (28, Bool.true) }) (v := ?_) rfl (by kernel_rfl) (by kernel_rfl) (by kernel_rfl) (fun _ _ _ h => h) (Or.inl ⟨by rfl, ?_⟩) hHeld ?_
  rotate_left
  · intro W hSw
    obtain ⟨s1, s2, s3⟩ := hSw
    go_simp
    (try with_reducible rfl)
  (try simp only [Act.put, List.setIfInBounds_toArray, List.set_cons_zero, List.set_cons_succ])
  refine wpAnyH_take (i := 31) (oi := { dst := Option.some 84, op := Go.Op.load 42 (Go.Operand.tmp 83), type := 42, pos := "law.go:35", after := #[{ on := 30, ground := Go.Ground.data }, { on := 28, ground := Go.Ground.guard }], guard := Option.some (28, Bool.true) }) (v := ?_) rfl (by kernel_rfl) (by kernel_rfl) (by kernel_rfl) (fun _ _ _ h => h) (Or.inl ⟨by rfl, ?_⟩) hHeld ?_
  rotate_left
  · intro W hSw
    obtain ⟨s1, s2, s3⟩ := hSw
    go_simp
    (try with_reducible rfl)
  (try simp only [Act.put, List.setIfInBounds_toArray, List.set_cons_zero, List.set_cons_succ])
  refine wpAnyH_take (i := 32) (oi := { dst := Option.some 85, op := Go.Op.indexAddr 42 (Go.Operand.tmp 84) (Go.Operand.const (Go.Value.int Go.IntKind.i64 0)), type := 0, pos := "law.go:35", after := #[{ on := 31, ground := Go.Ground.data }, { on := 28, ground := Go.Ground.guard }], guard := Option.some (28, Bool.true) }) (v := ?_) rfl (by kernel_rfl) (by kernel_rfl) (by kernel_rfl) (fun _ _ _ h => h) (Or.inl ⟨by rfl, ?_⟩) hHeld ?_
  rotate_left
  · intro W hSw
    obtain ⟨s1, s2, s3⟩ := hSw
    go_simp
    (try with_reducible rfl)
  (try simp only [Act.put, List.setIfInBounds_toArray, List.set_cons_zero, List.set_cons_succ])
  refine wpAnyH_take (i := 33) (oi := { dst := Option.some 86, op := Go.Op.load 36 (Go.Operand.tmp 85), type := 36, pos := "law.go:35", after := #[{ on := 32, ground := Go.Ground.data }, { on := 28, ground := Go.Ground.guard }], guard := Option.some (28, Bool.true) }) (v := .agg XC.toArray) rfl (by kernel_rfl) (by kernel_rfl) (by kernel_rfl) (fun _ _ _ h => h) (yieldsIf_load_mid (by rfl) 36 (.tmp 85) rfl g1 0 rfl XC _ (fun W hSw => hSw.2.1) Tryz.underlying36 rfl J3.out) hHeld ?_
  (try simp only [Act.put, List.setIfInBounds_toArray, List.set_cons_zero, List.set_cons_succ])
  refine wpAnyH_take (i := 34) (oi := { dst := Option.some 87, op := Go.Op.load 36 (Go.Operand.tmp 2), type := 36, pos := "law.go:35", after := #[{ on := 28, ground := Go.Ground.guard }], guard := Option.some (28, Bool.true) }) (v := .agg EC.toArray) rfl (by kernel_rfl) (by kernel_rfl) (by kernel_rfl) (fun _ _ _ h => h) (yieldsIf_load_mid (by rfl) 36 (.tmp 2) rfl w.heap.size 0 rfl EC _ (fun W hSw => hSw.2.2) Tryz.underlying36 rfl I4.out) hHeld ?_
  (try simp only [Act.put, List.setIfInBounds_toArray, List.set_cons_zero, List.set_cons_succ])
  refine wpAnyH_ready (rs := [35]) (by kernel_rfl) (by simp) ?_
  refine AllReadyH.cons (o := { dst := Option.some 88, op := Go.Op.call { callee := Go.Callee.value (Go.Operand.func 13), args := #[Go.Operand.tmp 86, Go.Operand.tmp 87], argTypes := #[36, 36] }, type := 4, pos := "law.go:35", after := #[{ on := 33, ground := Go.Ground.data }, { on := 34, ground := Go.Ground.data }, { on := 28, ground := Go.Ground.chain }, { on := 28, ground := Go.Ground.guard }], guard := Option.some (28, Bool.true) }) rfl (fun K hK => ?_) AllReadyH.nil
  go_simp
  go_at_call 13; refine (DE.out _ _ _ K7.out.drew).mono ?_; rintro r w8 ⟨rfl, B8⟩; have K8 := hid B8; clear B8
  refine hK.out _ _ ⟨Y2.out _ _ K8.out, Y1.out _ _ _ K8.out, HG1.out _ [_, _, _, _] K8.out⟩ (fun hHeld => ?_)
  clear hK K
  (try simp only [Act.put, List.setIfInBounds_toArray, List.set_cons_zero, List.set_cons_succ])
  refine wpAnyH_take (i := 36) (oi := { dst := Option.some 89, op := Go.Op.pick (Go.Operand.tmp 81) (Go.Operand.tmp 88) (Go.Operand.const (Go.Value.bool Bool.false)), type := 4, pos := "law.go:35", after := #[{ on := 28, ground := Go.Ground.data }, { on := 35, ground := Go.Ground.data }], guard := Option.none }) (v := ?_) rfl (by kernel_rfl) (by kernel_rfl) (by kernel_rfl) (fun _ _ _ h => h) (Or.inl ⟨by rfl, ?_⟩) hHeld ?_
  rotate_left
  · intro W hSw
    obtain ⟨s1, s2, s3⟩ := hSw
    go_simp
    (try with_reducible rfl)
  (try simp only [Act.put, List.setIfInBounds_toArray, List.set_cons_zero, List.set_cons_succ])
  refine wpAnyH_take (i := 37) (oi := { dst := Option.some 4, op := Go.Op.assign (Go.Operand.tmp 89), type := 4, pos := "law.go:35", after := #[{ on := 36, ground := Go.Ground.data }, { on := 35, ground := Go.Ground.chain }, { on := 0, ground := Go.Ground.phase }, { on := 1, ground := Go.Ground.phase }, { on := 2, ground := Go.Ground.phase }, { on := 3, ground := Go.Ground.phase }, { on := 4, ground := Go.Ground.phase }, { on := 5, ground := Go.Ground.phase }, { on := 6, ground := Go.Ground.phase }, { on := 7, ground := Go.Ground.phase }, { on := 8, ground := Go.Ground.phase }, { on := 9, ground := Go.Ground.phase }, { on := 10, ground := Go.Ground.phase }, { on := 11, ground := Go.Ground.phase }, { on := 12, ground := Go.Ground.phase }, { on := 13, ground := Go.Ground.phase }, { on := 14, ground := Go.Ground.phase }, { on := 15, ground := Go.Ground.phase }, { on := 16, ground := Go.Ground.phase }, { on := 17, ground := Go.Ground.phase }, { on := 18, ground := Go.Ground.phase }, { on := 19, ground := Go.Ground.phase }, { on := 20, ground := Go.Ground.phase }, { on := 21, ground := Go.Ground.phase }, { on := 22, ground := Go.Ground.phase }, { on := 23, ground := Go.Ground.phase }, { on := 24, ground := Go.Ground.phase }, { on := 25, ground := Go.Ground.phase }, { on := 26, ground := Go.Ground.phase }, { on := 27, ground := Go.Ground.phase }, { on := 28, ground := Go.Ground.phase }, { on := 29, ground := Go.Ground.phase }, { on := 30, ground := Go.Ground.phase }, { on := 31, ground := Go.Ground.phase }, { on := 32, ground := Go.Ground.phase }, { on := 33, ground := Go.Ground.phase }, { on := 34, ground := Go.Ground.phase }, { on := 35, ground := Go.Ground.phase }, { on := 36, ground := Go.Ground.phase }], guard := Option.none }) (v := ?_) rfl (by kernel_rfl) (by kernel_rfl) (by kernel_rfl) (fun _ _ _ h => h) (Or.inl ⟨by rfl, ?_⟩) hHeld ?_
  rotate_left
  · intro W hSw
    obtain ⟨s1, s2, s3⟩ := hSw
    go_simp
    (try with_reducible rfl)
  (try simp only [Act.put, List.setIfInBounds_toArray, List.set_cons_zero, List.set_cons_succ])
  refine wpAnyH_done (by kernel_rfl) ?_ _
  clear hHeld
  go_wp2
  go_ret
  exact ⟨rfl, K8.out.into (by simp)⟩
end Go.Proofs.YtfeppannfcbakaaGreatDoor
