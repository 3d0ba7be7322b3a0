import Derived.Test.YtfeppannfcbakaaGreatDoorEv9
import Derived.Deep.WholeRow
namespace Go.Proofs.YtfeppannfcbakaaGreatDoor
open Go.RowKit
set_option linter.unusedVariables false
set_option maxRecDepth 100000

/-- An op written into an event's cells. -/
def setOp (C : List Value) (o : Nat) (x : OpR) : List Value := ((((C.set o (.int .i64 x.k)).set (o + 1) (.string ⟨x.nm.toArray⟩)).set (o + 2) (.string ⟨x.tx.toArray⟩)).set (o + 3) (.int .i64 (x.n : Int))).set (o + 4) (.int .i64 (x.m : Int))
theorem readO_le (l : Ws) : (readO l).k ≤ l.length := by
  unfold readO
  split
  · simp [RO.bad]
  · split
    · simp [RO.bad]
    · split
      · simp [RO.bad]
      · split
        · simp [RO.bad]
        · split
          · simp [RO.bad]
          · simp only; omega
set_option maxHeartbeats 3200000 in
set_option maxRecDepth 1000000 in
theorem rop_any {R P o : Nat} {s : Value} {l : Ws} {C : List Value} {cs : List Comp} {w w0 : World} (hE : ∀ W, All cs W → En W) (h0 : Rt w0 s l) (hi : inC w0 ∈ cs) (hl : l.length ≤ 140737488355328) (hs : ∀ x ∈ l, x.length ≤ 140737488355328) (ho : o + 5 ≤ C.length) (A : All (blkC R [s] 124 :: blkC P C 36 :: cs) w) :
    Calls Tryz.prog 131 #[.pointer (some ⟨R, 0, none⟩), .pointer (some ⟨P, o, none⟩)] w fun e w' => e = .returned (.int .i64 (readO l).e) ∧ ∃ s', Rt w0 s' (l.drop (readO l).k) ∧ All (blkC R [s'] 124 :: blkC P (setOp C o (readO l).o) 36 :: cs) w' := by
  have HA := hid A
  have CO := hid (ReadOp_any (l := l) (s := s) A (fun W hW => h0.later (hW.into (List.mem_cons_of_mem _ (List.mem_cons_of_mem _ hi)))) (fun W hW => (hE W hW.tail.tail).v) (fun W hW => (hE W hW.tail.tail).t) (fun W hW => (hE W hW.tail.tail).f) hl hs)
  have hk := readO_le l
  obtain ⟨ao, c, rfl⟩ := h0.form
  obtain ⟨ao', c', hsl, hR'⟩ := cut_l h0 hk rfl
  have HR := hid hR'
  have FC : Hid (∀ W, All (blkC R [.slice ao l.length c] 124 :: blkC P C 36 :: cs) W → W.cell? ⟨R, 0, none⟩ = some (.slice ao l.length c) ∧ W.frozen? ⟨R, 0, none⟩ = false ∧ R < W.heap.size) := hid (fun W hW => ⟨cell_in (P := R) (o := 0) hW (t := 124) (List.mem_cons_self) rfl, free_at (hW.blk (g := R) (t := 124) (List.mem_cons_self)) 0, hW.1.2.2 R (by simp [blkC])⟩)
  obtain ⟨f1, f2, f3⟩ := FC.out _ A
  unfold ROPost at CO
  obtain ⟨r, hr⟩ : ∃ r, Hid (r = readO l) := ⟨_, hid rfl⟩
  rw [← hr.out] at CO hsl HR ⊢
  clear A hE h0 hi hl hs hk hR' hr
  have SM : Hid (∀ W S ds, All (blkC R [S] 124 :: blkC P C 36 :: ds) W → All (blkC R [S] 124 :: blkC P (setOp C o r.o) 36 :: ds) (W.setCells P o r.o.vals)) := hid (fun W S ds hW => (((((hW.swap.setBlk o (.int .i64 r.o.k)).setBlk (o + 1) (.string ⟨r.o.nm.toArray⟩)).setBlk (o + 2) (.string ⟨r.o.tx.toArray⟩)).setBlk (o + 3) (.int .i64 (r.o.n : Int))).setBlk (o + 4) (.int .i64 (r.o.m : Int))).swap)
  have TH : Hid (∀ W S ds, All (blkC R [S] 124 :: blkC P C 36 :: ds) W → W.there P o r.o.vals.toArray.size) := hid (fun W S ds hW q hq => by
    have hb := hW.blk (g := P) (vs := C) (t := 36) (by simp)
    have hq' : q < 5 := hq
    refine ⟨?_, free_at hb _⟩
    rw [cell_at hb, List.getElem?_toArray, List.getElem?_eq_getElem (by omega)]
    rfl)
  have FC3 : Hid (∀ W S C' ds, All (blkC R [S] 124 :: blkC P C' 36 :: ds) W → W.cell? ⟨R, 0, none⟩ = some S ∧ W.frozen? ⟨R, 0, none⟩ = false ∧ R < W.heap.size) := hid (fun W S C' ds hW => ⟨cell_in (P := R) (o := 0) hW (t := 124) (List.mem_cons_self) rfl, free_at (hW.blk (g := R) (t := 124) (List.mem_cons_self)) 0, hW.1.2.2 R (by simp [blkC])⟩)
  have I24 : Hid ((Tryz.prog.info? 24).map (·.size) = some r.o.vals.toArray.size) := hid (by kernel_rfl)
  have O24 : Hid (r.o.vals.toArray.all (·.oneCell') = true) := hid (by simp [OpR.vals, Value.oneCell'])
  have Z24 : Hid (5 = r.o.vals.toArray.size) := hid rfl
  have EV : opV r.o.k ⟨r.o.nm.toArray⟩ ⟨r.o.tx.toArray⟩ (r.o.n : Int) (r.o.m : Int) = .agg r.o.vals.toArray := rfl
  rw [EV] at CO
  clear EV FC ho
  generalize setOp C o r.o = C2 at *
  generalize r.o.vals = VL at *
  generalize l.length = n at *
  go_enter Tryz.func131, Tryz.ntmps131
  go_upto_region 2 with (first | (go_at_call 148; refine CO.out.mono ?_; rintro e w1 ⟨rfl, A1⟩; have K1 := hid A1; clear A1) | (refine wpList_store_row rfl 24 _ _ rfl w1.heap.size VL.toArray rfl rfl 24 _ (heap_alloc_new w1 _) I24.out Z24.out O24.out ?_; rw [World.setRow_alloc_new]))
  have K2 : Hid (All (blkC R [.slice ao n c] 124 :: blkC P C 36 :: blkC w1.heap.size VL 24 :: cs) (w1.alloc (.cells VL.toArray 24)).drew) := hid ((K1.out.addBlk VL 24).perm (by exact (List.Perm.swap _ _ _).trans ((List.Perm.swap _ _ _).cons _))).drew
  have RG : Hid (∀ W S C', All (blkC R [S] 124 :: blkC P C' 36 :: blkC w1.heap.size VL 24 :: cs) W → W.rangeAt w1.heap.size 0 VL) := hid (fun W S C' hW q u hu => by
    rw [Nat.zero_add]
    exact cell_in (P := w1.heap.size) hW (t := 24) (List.mem_cons_of_mem _ (List.mem_cons_of_mem _ (List.mem_cons_self))) hu)
  clear K1 CO f1 f2 f3
  refine wp_region_held_drew (S := (fun W => W.rangeAt w1.heap.size 0 VL)) (by kernel_rfl) (RG.out _ _ _ K2.out) (fun hHeld => ?_)
  generalize World.drew _ = wd at *
  obtain ⟨g1, g2, g3⟩ := FC3.out _ _ _ _ K2.out
  have K3 := hid (SM.out _ _ _ K2.out)
  have T2 := hid (TH.out _ _ _ K2.out)
  obtain ⟨j1, j2, j3⟩ := FC3.out _ _ _ _ K3.out
  have K4 := hid (K3.out.setBlk 0 (.slice ao' (n - r.k) c'))
  refine wpAnyH_take (i := 0) (oi := { dst := Option.some 17, op := Go.Op.move (Go.Operand.tmp 1), type := 99, pos := "read.go:116", after := #[], guard := Option.none }) (v := ?_) rfl (by kernel_rfl) (by kernel_rfl) (by kernel_rfl) (fun _ _ _ h => h) (Or.inl ⟨by rfl, ?_⟩) hHeld ?_
  rotate_left
  · intro W hSw
    (try dsimp only at hSw)
    go_simp
    (try with_reducible rfl)
  (try simp only [Act.put, List.setIfInBounds_toArray, List.set_cons_zero, List.set_cons_succ])
  refine wpAnyH_take (i := 1) (oi := { dst := Option.some 18, op := Go.Op.move (Go.Operand.tmp 0), type := 158, pos := "read.go:116", after := #[{ on := 10, ground := Go.Ground.gcOnly Go.Departure.lateStores }], guard := Option.none }) (v := ?_) rfl (by kernel_rfl) (by kernel_rfl) (by kernel_rfl) (fun _ _ _ h => h) (Or.inl ⟨by rfl, ?_⟩) hHeld ?_
  rotate_left
  · intro W hSw
    (try dsimp only at hSw)
    go_simp
    (try with_reducible rfl)
  (try simp only [Act.put, List.setIfInBounds_toArray, List.set_cons_zero, List.set_cons_succ])
  refine wpAnyH_take (i := 3) (oi := { dst := Option.some 20, op := Go.Op.move (Go.Operand.tmp 0), type := 158, pos := "read.go:116", after := #[], guard := Option.none }) (v := ?_) rfl (by kernel_rfl) (by kernel_rfl) (by kernel_rfl) (fun _ _ _ h => h) (Or.inl ⟨by rfl, ?_⟩) hHeld ?_
  rotate_left
  · intro W hSw
    (try dsimp only at hSw)
    go_simp
    (try with_reducible rfl)
  (try simp only [Act.put, List.setIfInBounds_toArray, List.set_cons_zero, List.set_cons_succ])
  refine wpAnyH_take (i := 4) (oi := { dst := Option.some 21, op := Go.Op.nilCheck (Go.Operand.tmp 20), type := 0, pos := "read.go:116", after := #[{ on := 3, ground := Go.Ground.data }], guard := Option.none }) (v := ?_) rfl (by kernel_rfl) (by kernel_rfl) (by kernel_rfl) (fun _ _ _ h => h) (Or.inl ⟨by rfl, ?_⟩) hHeld ?_
  rotate_left
  · intro W hSw
    (try dsimp only at hSw)
    go_simp
    (try with_reducible rfl)
  (try simp only [Act.put, List.setIfInBounds_toArray, List.set_cons_zero, List.set_cons_succ])
  refine wpAnyH_take (i := 5) (oi := { dst := Option.some 22, op := Go.Op.fieldAddr 124 (Go.Operand.tmp 21) 0, type := 0, pos := "read.go:116", after := #[{ on := 4, ground := Go.Ground.data }], guard := Option.none }) (v := ?_) rfl (by kernel_rfl) (by kernel_rfl) (by kernel_rfl) (fun _ _ _ h => h) (Or.inl ⟨by rfl, ?_⟩) hHeld ?_
  rotate_left
  · intro W hSw
    (try dsimp only at hSw)
    go_simp
    (try with_reducible rfl)
  (try simp only [Act.put, List.setIfInBounds_toArray, List.set_cons_zero, List.set_cons_succ])
  refine wpAnyH_take (i := 7) (oi := { dst := Option.some 24, op := Go.Op.move (Go.Operand.tmp 6), type := 3, pos := "read.go:116", after := #[], guard := Option.none }) (v := ?_) rfl (by kernel_rfl) (by kernel_rfl) (by kernel_rfl) (fun _ _ _ h => h) (Or.inl ⟨by rfl, ?_⟩) hHeld ?_
  rotate_left
  · intro W hSw
    (try dsimp only at hSw)
    go_simp
    (try with_reducible rfl)
  (try simp only [Act.put, List.setIfInBounds_toArray, List.set_cons_zero, List.set_cons_succ])
  refine wpAnyH_take (i := 2) (oi := { dst := Option.some 19, op := Go.Op.load 24 (Go.Operand.tmp 5), type := 24, pos := "read.go:116", after := #[], guard := Option.none }) (v := .agg VL.toArray) rfl (by kernel_rfl) (by kernel_rfl) (by kernel_rfl) (fun _ _ _ h => h) (yieldsIf_load_mid (by rfl) 24 (.tmp 5) rfl w1.heap.size 0 rfl VL _ (fun W hSw => hSw) Tryz.underlying24 rfl I24.out) hHeld ?_
  (try simp only [Act.put, List.setIfInBounds_toArray, List.set_cons_zero, List.set_cons_succ])
  refine wpAnyH_ready (rs := [6]) (by kernel_rfl) (by simp) ?_
  refine AllReadyH.cons (o := { dst := Option.some 23, op := Go.Op.load 27 (Go.Operand.tmp 22), type := 27, pos := "read.go:116", after := #[{ on := 5, ground := Go.Ground.data }], guard := Option.none }) rfl (fun K hK => ?_) AllReadyH.nil
  go_simp
  skip
  refine hK.out _ _ (RG.out _ _ _ K2.out) (fun hHeld => ?_)
  clear hK K
  (try simp only [Act.put, List.setIfInBounds_toArray, List.set_cons_zero, List.set_cons_succ])
  refine wpAnyH_take (i := 8) (oi := { dst := Option.some 25, op := Go.Op.slice 27 (Go.Operand.tmp 23) (Option.some (Go.Operand.tmp 24)) Option.none Option.none, type := 27, pos := "read.go:116", after := #[{ on := 6, ground := Go.Ground.data }, { on := 7, ground := Go.Ground.data }], guard := Option.none }) (v := ?_) rfl (by kernel_rfl) (by kernel_rfl) (by kernel_rfl) (fun _ _ _ h => h) (Or.inl ⟨by rfl, ?_⟩) hHeld ?_
  rotate_left
  · intro W hSw
    (try dsimp only at hSw)
    go_simp
    (try with_reducible rfl)
  (try simp only [Act.put, List.setIfInBounds_toArray, List.set_cons_zero, List.set_cons_succ])
  refine wpAnyH_take (i := 9) (oi := { dst := Option.some 26, op := Go.Op.nilCheck (Go.Operand.tmp 17), type := 0, pos := "read.go:116", after := #[{ on := 0, ground := Go.Ground.data }, { on := 0, ground := Go.Ground.phase }, { on := 1, ground := Go.Ground.textOnly Go.Departure.lateStores }, { on := 2, ground := Go.Ground.phase }, { on := 3, ground := Go.Ground.textOnly Go.Departure.lateStores }, { on := 4, ground := Go.Ground.textOnly Go.Departure.lateStoresUnsure }, { on := 5, ground := Go.Ground.textOnly Go.Departure.lateStoresUnsure }, { on := 6, ground := Go.Ground.phase }, { on := 7, ground := Go.Ground.textOnly Go.Departure.lateStores }, { on := 8, ground := Go.Ground.textOnly Go.Departure.lateStoresUnsure }], guard := Option.none }) (v := ?_) rfl (by kernel_rfl) (by kernel_rfl) (by kernel_rfl) (fun _ _ _ h => h) (Or.inl ⟨by rfl, ?_⟩) hHeld ?_
  rotate_left
  · intro W hSw
    (try dsimp only at hSw)
    go_simp
    (try with_reducible rfl)
  (try simp only [Act.put, List.setIfInBounds_toArray, List.set_cons_zero, List.set_cons_succ])
  refine wpAnyH_ready (rs := [10]) (by kernel_rfl) (by simp) ?_
  refine AllReadyH.cons (o := { dst := Option.none, op := Go.Op.store 24 (Go.Operand.tmp 26) (Go.Operand.tmp 19), type := 0, pos := "read.go:116", after := #[{ on := 9, ground := Go.Ground.data }, { on := 2, ground := Go.Ground.data }, { on := 0, ground := Go.Ground.phase }, { on := 1, ground := Go.Ground.textOnly Go.Departure.lateStores }, { on := 2, ground := Go.Ground.phase }, { on := 3, ground := Go.Ground.textOnly Go.Departure.lateStores }, { on := 4, ground := Go.Ground.textOnly Go.Departure.lateStoresUnsure }, { on := 5, ground := Go.Ground.textOnly Go.Departure.lateStoresUnsure }, { on := 6, ground := Go.Ground.phase }, { on := 7, ground := Go.Ground.textOnly Go.Departure.lateStores }, { on := 8, ground := Go.Ground.textOnly Go.Departure.lateStoresUnsure }], guard := Option.none }) rfl (fun K hK => ?_) AllReadyH.nil
  rw [if_pos (by rfl)]
  refine wp_store_mid 24 _ _ rfl P o VL.toArray rfl rfl T2.out I24.out O24.out ?_; rw [List.toList_toArray]
  refine hK.out _ _ (RG.out _ _ _ K3.out) (fun hHeld => ?_)
  clear hK K
  (try simp only [Act.put])
  refine wpAnyH_take (i := 11) (oi := { dst := Option.some 27, op := Go.Op.nilCheck (Go.Operand.tmp 18), type := 0, pos := "read.go:116", after := #[{ on := 1, ground := Go.Ground.data }, { on := 0, ground := Go.Ground.phase }, { on := 1, ground := Go.Ground.phase }, { on := 2, ground := Go.Ground.phase }, { on := 3, ground := Go.Ground.phase }, { on := 4, ground := Go.Ground.phase }, { on := 5, ground := Go.Ground.phase }, { on := 6, ground := Go.Ground.phase }, { on := 7, ground := Go.Ground.phase }, { on := 8, ground := Go.Ground.phase }, { on := 9, ground := Go.Ground.phase }, { on := 10, ground := Go.Ground.phase }], guard := Option.none }) (v := ?_) rfl (by kernel_rfl) (by kernel_rfl) (by kernel_rfl) (fun _ _ _ h => h) (Or.inl ⟨by rfl, ?_⟩) hHeld ?_
  rotate_left
  · intro W hSw
    (try dsimp only at hSw)
    go_simp
    (try with_reducible rfl)
  (try simp only [Act.put, List.setIfInBounds_toArray, List.set_cons_zero, List.set_cons_succ])
  refine wpAnyH_take (i := 12) (oi := { dst := Option.some 28, op := Go.Op.fieldAddr 124 (Go.Operand.tmp 27) 0, type := 0, pos := "read.go:116", after := #[{ on := 11, ground := Go.Ground.data }, { on := 0, ground := Go.Ground.phase }, { on := 1, ground := Go.Ground.phase }, { on := 2, ground := Go.Ground.phase }, { on := 3, ground := Go.Ground.phase }, { on := 4, ground := Go.Ground.phase }, { on := 5, ground := Go.Ground.phase }, { on := 6, ground := Go.Ground.phase }, { on := 7, ground := Go.Ground.phase }, { on := 8, ground := Go.Ground.phase }, { on := 9, ground := Go.Ground.phase }, { on := 10, ground := Go.Ground.phase }], guard := Option.none }) (v := ?_) rfl (by kernel_rfl) (by kernel_rfl) (by kernel_rfl) (fun _ _ _ h => h) (Or.inl ⟨by rfl, ?_⟩) hHeld ?_
  rotate_left
  · intro W hSw
    (try dsimp only at hSw)
    go_simp
    (try with_reducible rfl)
  (try simp only [Act.put, List.setIfInBounds_toArray, List.set_cons_zero, List.set_cons_succ])
  refine wpAnyH_ready (rs := [13]) (by kernel_rfl) (by simp) ?_
  refine AllReadyH.cons (o := { dst := Option.none, op := Go.Op.store 27 (Go.Operand.tmp 28) (Go.Operand.tmp 25), type := 0, pos := "read.go:116", after := #[{ on := 12, ground := Go.Ground.data }, { on := 8, ground := Go.Ground.data }, { on := 10, ground := Go.Ground.chain }, { on := 0, ground := Go.Ground.phase }, { on := 1, ground := Go.Ground.phase }, { on := 2, ground := Go.Ground.phase }, { on := 3, ground := Go.Ground.phase }, { on := 4, ground := Go.Ground.phase }, { on := 5, ground := Go.Ground.phase }, { on := 6, ground := Go.Ground.phase }, { on := 7, ground := Go.Ground.phase }, { on := 8, ground := Go.Ground.phase }, { on := 9, ground := Go.Ground.phase }, { on := 10, ground := Go.Ground.phase }], guard := Option.none }) rfl (fun K hK => ?_) AllReadyH.nil
  go_simp
  skip
  refine hK.out _ _ (RG.out _ _ _ K4.out) (fun hHeld => ?_)
  clear hK K
  (try simp only [Act.put, List.setIfInBounds_toArray, List.set_cons_zero, List.set_cons_succ])
  refine wpAnyH_done (by kernel_rfl) ?_ _
  clear hHeld
  have K5 := hid (K4.out.perm (((List.Perm.swap _ _ _).cons _).trans (List.Perm.swap _ _ _))).tail
  clear K4 K3 K2
  go_wp2
  go_ret
  exact ⟨rfl, _, HR.out, K5.out⟩
def setRes (C : List Value) (o : Nat) (c n : Int) (v : Value) : List Value := ((C.set o (.int .i64 c)).set (o + 1) (.int .i64 n)).set (o + 2) v
theorem readR_le (l : Ws) : (readR l).k ≤ l.length := by
  unfold readR
  split
  · simp [RR.bad]
  · split
    · simp [RR.bad]
    · unfold readD
      split
      · simp [RR.bad]
      · split
        · simp [RR.bad]
        · split
          · simp [RR.bad]
          · split
            · simp [RR.bad]
            · split
              · simp [RR.bad]
              · split
                · simp [RR.bad]
                · simp only; omega
    · simp
set_option maxHeartbeats 3200000 in
set_option maxRecDepth 1000000 in
theorem rres_any {R P o : Nat} {s : Value} {l : Ws} {C : List Value} {cs : List Comp} {w w0 : World} (hE : ∀ W, All cs W → En W) (h0 : Rt w0 s l) (hi : inC w0 ∈ cs) (hl : l.length * 16 ≤ 140737488355328) (hs : ∀ x ∈ l, x.length ≤ 140737488355328) (ho : o + 3 ≤ C.length) (A : All (blkC R [s] 124 :: blkC P C 36 :: cs) w) :
    Calls Tryz.prog 132 #[.pointer (some ⟨R, 0, none⟩), .pointer (some ⟨P, o, none⟩)] w fun e w' => e = .returned (.int .i64 (readR l).e) ∧ ∃ s' v, Rt w0 s' (l.drop (readR l).k) ∧ All (blkC R [s'] 124 :: blkC P (setRes C o (readR l).c (readR l).n v) 36 :: ownC 9 v (txW (readR l).items) :: cs) w' := by
  have HA := hid A
  have CO := hid (ReadResult_any (l := l) (s := s) A (hE _ A.tail.tail).v (hE _ A.tail.tail).c (h0.later (A.into (List.mem_cons_of_mem _ (List.mem_cons_of_mem _ hi)))) hl hs)
  have hk := readR_le l
  obtain ⟨ao, c, rfl⟩ := h0.form
  obtain ⟨ao', c', hsl, hR'⟩ := cut_l h0 hk rfl
  have HR := hid hR'
  have FC3 : Hid (∀ W S C' ds, All (blkC R [S] 124 :: blkC P C' 36 :: ds) W → W.cell? ⟨R, 0, none⟩ = some S ∧ W.frozen? ⟨R, 0, none⟩ = false ∧ R < W.heap.size) := hid (fun W S C' ds hW => ⟨cell_in (P := R) (o := 0) hW (t := 124) (List.mem_cons_self) rfl, free_at (hW.blk (g := R) (t := 124) (List.mem_cons_self)) 0, hW.1.2.2 R (by simp [blkC])⟩)
  obtain ⟨f1, f2, f3⟩ := FC3.out _ _ _ _ A
  unfold RRPost at CO
  obtain ⟨r, hr⟩ : ∃ r, Hid (r = readR l) := ⟨_, hid rfl⟩
  rw [← hr.out] at CO hsl HR ⊢
  clear A hE h0 hi hl hs hk hR' hr
  have SM : Hid (∀ W S ds V1, All (blkC R [S] 124 :: blkC P C 36 :: ds) W → All (blkC R [S] 124 :: blkC P (setRes C o r.c r.n V1) 36 :: ds) (W.setCells P o [.int .i64 r.c, .int .i64 r.n, V1])) := hid (fun W S ds V1 hW => (((hW.swap.setBlk o (.int .i64 r.c)).setBlk (o + 1) (.int .i64 r.n)).setBlk (o + 2) V1).swap)
  have TH : Hid (∀ W S ds (V1 : Value), All (blkC R [S] 124 :: blkC P C 36 :: ds) W → W.there P o (#[.int .i64 r.c, .int .i64 r.n, V1] : Array Value).size) := hid (fun W S ds V1 hW q hq => by
    have hb := hW.blk (g := P) (vs := C) (t := 36) (by simp)
    have hq' : q < 3 := hq
    refine ⟨?_, free_at hb _⟩
    rw [cell_at hb, List.getElem?_toArray, List.getElem?_eq_getElem (by omega)]
    rfl)
  have I29 : Hid (∀ V1 : Value, (Tryz.prog.info? 29).map (·.size) = some ([.int .i64 r.c, .int .i64 r.n, V1] : List Value).length) := hid (fun V1 => by kernel_rfl)
  clear ho
  generalize l.length = n at *
  go_enter Tryz.func132, Tryz.ntmps132
  go_upto_region 2 with (first | (go_at_call 149; refine CO.out.mono ?_; rintro e w1 ⟨V1, rfl, A1⟩; have O29 : Hid ((#[.int .i64 r.c, .int .i64 r.n, V1] : Array Value).all (·.oneCell') = true) := hid (by (obtain ⟨a1, b1, e1⟩ := owns_form A1.1.2.1); rw [e1]; simp [Value.oneCell']); have K1 := hid A1; clear A1) | (refine wpList_store_row rfl 29 _ _ rfl w1.heap.size #[.int .i64 r.c, .int .i64 r.n, V1] rfl rfl 29 _ (heap_alloc_new w1 _) (I29.out V1) rfl O29.out ?_; rw [World.setRow_alloc_new]))
  have K2 : Hid (All (blkC R [.slice ao n c] 124 :: blkC P C 36 :: blkC w1.heap.size [.int .i64 r.c, .int .i64 r.n, V1] 29 :: ownC 9 V1 (txW r.items) :: cs) (w1.alloc (.cells #[.int .i64 r.c, .int .i64 r.n, V1] 29)).drew) := hid ((K1.out.addBlk [.int .i64 r.c, .int .i64 r.n, V1] 29).perm (List.perm_append_comm (l₁ := [blkC w1.heap.size [.int .i64 r.c, .int .i64 r.n, V1] 29, ownC 9 V1 (txW r.items)]) (l₂ := [blkC R [.slice ao n c] 124, blkC P C 36]) |>.append_right cs)).drew
  have RG : Hid (∀ W S C', All (blkC R [S] 124 :: blkC P C' 36 :: blkC w1.heap.size [.int .i64 r.c, .int .i64 r.n, V1] 29 :: ownC 9 V1 (txW r.items) :: cs) W → W.rangeAt w1.heap.size 0 [.int .i64 r.c, .int .i64 r.n, V1]) := hid (fun W S C' hW q u hu => by
    rw [Nat.zero_add]
    exact cell_in (P := w1.heap.size) hW (t := 29) (List.mem_cons_of_mem _ (List.mem_cons_of_mem _ (List.mem_cons_self))) hu)
  clear K1 CO f1 f2 f3
  refine wp_region_held_drew (S := (fun W => W.rangeAt w1.heap.size 0 [.int .i64 r.c, .int .i64 r.n, V1])) (by kernel_rfl) (RG.out _ _ _ K2.out) (fun hHeld => ?_)
  generalize World.drew _ = wd at *
  obtain ⟨g1, g2, g3⟩ := FC3.out _ _ _ _ K2.out
  have K3 := hid (SM.out _ _ _ V1 K2.out)
  have T2 := hid (TH.out _ _ _ V1 K2.out)
  obtain ⟨j1, j2, j3⟩ := FC3.out _ _ _ _ K3.out
  have K4 := hid (K3.out.setBlk 0 (.slice ao' (n - r.k) c'))
  refine wpAnyH_take (i := 0) (oi := { dst := Option.some 17, op := Go.Op.move (Go.Operand.tmp 1), type := 100, pos := "read.go:122", after := #[], guard := Option.none }) (v := ?_) rfl (by kernel_rfl) (by kernel_rfl) (by kernel_rfl) (fun _ _ _ h => h) (Or.inl ⟨by rfl, ?_⟩) hHeld ?_
  rotate_left
  · intro W hSw
    (try dsimp only at hSw)
    go_simp
    (try with_reducible rfl)
  (try simp only [Act.put, List.setIfInBounds_toArray, List.set_cons_zero, List.set_cons_succ])
  refine wpAnyH_take (i := 1) (oi := { dst := Option.some 18, op := Go.Op.move (Go.Operand.tmp 0), type := 158, pos := "read.go:122", after := #[{ on := 10, ground := Go.Ground.gcOnly Go.Departure.lateStores }], guard := Option.none }) (v := ?_) rfl (by kernel_rfl) (by kernel_rfl) (by kernel_rfl) (fun _ _ _ h => h) (Or.inl ⟨by rfl, ?_⟩) hHeld ?_
  rotate_left
  · intro W hSw
    (try dsimp only at hSw)
    go_simp
    (try with_reducible rfl)
  (try simp only [Act.put, List.setIfInBounds_toArray, List.set_cons_zero, List.set_cons_succ])
  refine wpAnyH_take (i := 3) (oi := { dst := Option.some 20, op := Go.Op.move (Go.Operand.tmp 0), type := 158, pos := "read.go:122", after := #[], guard := Option.none }) (v := ?_) rfl (by kernel_rfl) (by kernel_rfl) (by kernel_rfl) (fun _ _ _ h => h) (Or.inl ⟨by rfl, ?_⟩) hHeld ?_
  rotate_left
  · intro W hSw
    (try dsimp only at hSw)
    go_simp
    (try with_reducible rfl)
  (try simp only [Act.put, List.setIfInBounds_toArray, List.set_cons_zero, List.set_cons_succ])
  refine wpAnyH_take (i := 4) (oi := { dst := Option.some 21, op := Go.Op.nilCheck (Go.Operand.tmp 20), type := 0, pos := "read.go:122", after := #[{ on := 3, ground := Go.Ground.data }], guard := Option.none }) (v := ?_) rfl (by kernel_rfl) (by kernel_rfl) (by kernel_rfl) (fun _ _ _ h => h) (Or.inl ⟨by rfl, ?_⟩) hHeld ?_
  rotate_left
  · intro W hSw
    (try dsimp only at hSw)
    go_simp
    (try with_reducible rfl)
  (try simp only [Act.put, List.setIfInBounds_toArray, List.set_cons_zero, List.set_cons_succ])
  refine wpAnyH_take (i := 5) (oi := { dst := Option.some 22, op := Go.Op.fieldAddr 124 (Go.Operand.tmp 21) 0, type := 0, pos := "read.go:122", after := #[{ on := 4, ground := Go.Ground.data }], guard := Option.none }) (v := ?_) rfl (by kernel_rfl) (by kernel_rfl) (by kernel_rfl) (fun _ _ _ h => h) (Or.inl ⟨by rfl, ?_⟩) hHeld ?_
  rotate_left
  · intro W hSw
    (try dsimp only at hSw)
    go_simp
    (try with_reducible rfl)
  (try simp only [Act.put, List.setIfInBounds_toArray, List.set_cons_zero, List.set_cons_succ])
  refine wpAnyH_take (i := 7) (oi := { dst := Option.some 24, op := Go.Op.move (Go.Operand.tmp 6), type := 3, pos := "read.go:122", after := #[], guard := Option.none }) (v := ?_) rfl (by kernel_rfl) (by kernel_rfl) (by kernel_rfl) (fun _ _ _ h => h) (Or.inl ⟨by rfl, ?_⟩) hHeld ?_
  rotate_left
  · intro W hSw
    (try dsimp only at hSw)
    go_simp
    (try with_reducible rfl)
  (try simp only [Act.put, List.setIfInBounds_toArray, List.set_cons_zero, List.set_cons_succ])
  refine wpAnyH_take (i := 2) (oi := { dst := Option.some 19, op := Go.Op.load 29 (Go.Operand.tmp 5), type := 29, pos := "read.go:122", after := #[], guard := Option.none }) (v := .agg [.int .i64 r.c, .int .i64 r.n, V1].toArray) rfl (by kernel_rfl) (by kernel_rfl) (by kernel_rfl) (fun _ _ _ h => h) (yieldsIf_load_mid (by rfl) 29 (.tmp 5) rfl w1.heap.size 0 rfl [.int .i64 r.c, .int .i64 r.n, V1] _ (fun W hSw => hSw) Tryz.underlying29 rfl (I29.out V1)) hHeld ?_
  (try simp only [Act.put, List.setIfInBounds_toArray, List.set_cons_zero, List.set_cons_succ])
  refine wpAnyH_ready (rs := [6]) (by kernel_rfl) (by simp) ?_
  refine AllReadyH.cons (o := { dst := Option.some 23, op := Go.Op.load 27 (Go.Operand.tmp 22), type := 27, pos := "read.go:122", after := #[{ on := 5, ground := Go.Ground.data }], guard := Option.none }) rfl (fun K hK => ?_) AllReadyH.nil
  go_simp
  skip
  refine hK.out _ _ (RG.out _ _ _ K2.out) (fun hHeld => ?_)
  clear hK K
  (try simp only [Act.put, List.setIfInBounds_toArray, List.set_cons_zero, List.set_cons_succ])
  refine wpAnyH_take (i := 8) (oi := { dst := Option.some 25, op := Go.Op.slice 27 (Go.Operand.tmp 23) (Option.some (Go.Operand.tmp 24)) Option.none Option.none, type := 27, pos := "read.go:122", after := #[{ on := 6, ground := Go.Ground.data }, { on := 7, ground := Go.Ground.data }], guard := Option.none }) (v := ?_) rfl (by kernel_rfl) (by kernel_rfl) (by kernel_rfl) (fun _ _ _ h => h) (Or.inl ⟨by rfl, ?_⟩) hHeld ?_
  rotate_left
  · intro W hSw
    (try dsimp only at hSw)
    go_simp
    (try with_reducible rfl)
  (try simp only [Act.put, List.setIfInBounds_toArray, List.set_cons_zero, List.set_cons_succ])
  refine wpAnyH_take (i := 9) (oi := { dst := Option.some 26, op := Go.Op.nilCheck (Go.Operand.tmp 17), type := 0, pos := "read.go:122", after := #[{ on := 0, ground := Go.Ground.data }, { on := 0, ground := Go.Ground.phase }, { on := 1, ground := Go.Ground.textOnly Go.Departure.lateStores }, { on := 2, ground := Go.Ground.phase }, { on := 3, ground := Go.Ground.textOnly Go.Departure.lateStores }, { on := 4, ground := Go.Ground.textOnly Go.Departure.lateStoresUnsure }, { on := 5, ground := Go.Ground.textOnly Go.Departure.lateStoresUnsure }, { on := 6, ground := Go.Ground.phase }, { on := 7, ground := Go.Ground.textOnly Go.Departure.lateStores }, { on := 8, ground := Go.Ground.textOnly Go.Departure.lateStoresUnsure }], guard := Option.none }) (v := ?_) rfl (by kernel_rfl) (by kernel_rfl) (by kernel_rfl) (fun _ _ _ h => h) (Or.inl ⟨by rfl, ?_⟩) hHeld ?_
  rotate_left
  · intro W hSw
    (try dsimp only at hSw)
    go_simp
    (try with_reducible rfl)
  (try simp only [Act.put, List.setIfInBounds_toArray, List.set_cons_zero, List.set_cons_succ])
  refine wpAnyH_ready (rs := [10]) (by kernel_rfl) (by simp) ?_
  refine AllReadyH.cons (o := { dst := Option.none, op := Go.Op.store 29 (Go.Operand.tmp 26) (Go.Operand.tmp 19), type := 0, pos := "read.go:122", after := #[{ on := 9, ground := Go.Ground.data }, { on := 2, ground := Go.Ground.data }, { on := 0, ground := Go.Ground.phase }, { on := 1, ground := Go.Ground.textOnly Go.Departure.lateStores }, { on := 2, ground := Go.Ground.phase }, { on := 3, ground := Go.Ground.textOnly Go.Departure.lateStores }, { on := 4, ground := Go.Ground.textOnly Go.Departure.lateStoresUnsure }, { on := 5, ground := Go.Ground.textOnly Go.Departure.lateStoresUnsure }, { on := 6, ground := Go.Ground.phase }, { on := 7, ground := Go.Ground.textOnly Go.Departure.lateStores }, { on := 8, ground := Go.Ground.textOnly Go.Departure.lateStoresUnsure }], guard := Option.none }) rfl (fun K hK => ?_) AllReadyH.nil
  rw [if_pos (by rfl)]
  refine wp_store_mid 29 _ _ rfl P o #[.int .i64 r.c, .int .i64 r.n, V1] rfl rfl T2.out (I29.out V1) O29.out ?_
  refine hK.out _ _ (RG.out _ _ _ K3.out) (fun hHeld => ?_)
  clear hK K
  (try simp only [Act.put])
  refine wpAnyH_take (i := 11) (oi := { dst := Option.some 27, op := Go.Op.nilCheck (Go.Operand.tmp 18), type := 0, pos := "read.go:122", after := #[{ on := 1, ground := Go.Ground.data }, { on := 0, ground := Go.Ground.phase }, { on := 1, ground := Go.Ground.phase }, { on := 2, ground := Go.Ground.phase }, { on := 3, ground := Go.Ground.phase }, { on := 4, ground := Go.Ground.phase }, { on := 5, ground := Go.Ground.phase }, { on := 6, ground := Go.Ground.phase }, { on := 7, ground := Go.Ground.phase }, { on := 8, ground := Go.Ground.phase }, { on := 9, ground := Go.Ground.phase }, { on := 10, ground := Go.Ground.phase }], guard := Option.none }) (v := ?_) rfl (by kernel_rfl) (by kernel_rfl) (by kernel_rfl) (fun _ _ _ h => h) (Or.inl ⟨by rfl, ?_⟩) hHeld ?_
  rotate_left
  · intro W hSw
    (try dsimp only at hSw)
    go_simp
    (try with_reducible rfl)
  (try simp only [Act.put, List.setIfInBounds_toArray, List.set_cons_zero, List.set_cons_succ])
  refine wpAnyH_take (i := 12) (oi := { dst := Option.some 28, op := Go.Op.fieldAddr 124 (Go.Operand.tmp 27) 0, type := 0, pos := "read.go:122", after := #[{ on := 11, ground := Go.Ground.data }, { on := 0, ground := Go.Ground.phase }, { on := 1, ground := Go.Ground.phase }, { on := 2, ground := Go.Ground.phase }, { on := 3, ground := Go.Ground.phase }, { on := 4, ground := Go.Ground.phase }, { on := 5, ground := Go.Ground.phase }, { on := 6, ground := Go.Ground.phase }, { on := 7, ground := Go.Ground.phase }, { on := 8, ground := Go.Ground.phase }, { on := 9, ground := Go.Ground.phase }, { on := 10, ground := Go.Ground.phase }], guard := Option.none }) (v := ?_) rfl (by kernel_rfl) (by kernel_rfl) (by kernel_rfl) (fun _ _ _ h => h) (Or.inl ⟨by rfl, ?_⟩) hHeld ?_
  rotate_left
  · intro W hSw
    (try dsimp only at hSw)
    go_simp
    (try with_reducible rfl)
  (try simp only [Act.put, List.setIfInBounds_toArray, List.set_cons_zero, List.set_cons_succ])
  refine wpAnyH_ready (rs := [13]) (by kernel_rfl) (by simp) ?_
  refine AllReadyH.cons (o := { dst := Option.none, op := Go.Op.store 27 (Go.Operand.tmp 28) (Go.Operand.tmp 25), type := 0, pos := "read.go:122", after := #[{ on := 12, ground := Go.Ground.data }, { on := 8, ground := Go.Ground.data }, { on := 10, ground := Go.Ground.chain }, { on := 0, ground := Go.Ground.phase }, { on := 1, ground := Go.Ground.phase }, { on := 2, ground := Go.Ground.phase }, { on := 3, ground := Go.Ground.phase }, { on := 4, ground := Go.Ground.phase }, { on := 5, ground := Go.Ground.phase }, { on := 6, ground := Go.Ground.phase }, { on := 7, ground := Go.Ground.phase }, { on := 8, ground := Go.Ground.phase }, { on := 9, ground := Go.Ground.phase }, { on := 10, ground := Go.Ground.phase }], guard := Option.none }) rfl (fun K hK => ?_) AllReadyH.nil
  go_simp
  skip
  refine hK.out _ _ (RG.out _ _ _ K4.out) (fun hHeld => ?_)
  clear hK K
  (try simp only [Act.put, List.setIfInBounds_toArray, List.set_cons_zero, List.set_cons_succ])
  refine wpAnyH_done (by kernel_rfl) ?_ _
  clear hHeld
  have K5 := hid (K4.out.perm (((List.Perm.swap _ _ _).cons _).trans (List.Perm.swap _ _ _))).tail
  clear K4 K3 K2
  go_wp2
  go_ret
  exact ⟨rfl, _, HR.out, _, K5.out⟩
end Go.Proofs.YtfeppannfcbakaaGreatDoor
