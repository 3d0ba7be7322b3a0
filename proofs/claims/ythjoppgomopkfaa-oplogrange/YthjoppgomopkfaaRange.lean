import Derived.Test.YthjoppgomopkfaaRangeB
import Derived.Deep.CutBlock
import Derived.Sort.BigQuietIn
import Derived.Sort.CutIn
namespace Go.Proofs.Ythjoppgomopkfaa
open Go.RowKit Go.Shelf
set_option linter.unusedVariables false
theorem run_store_func (P : Program) (w : World) (a : Addr) (m : Mode) (f : Fn) (x y : Array Value) : (store a (.func f x y) m).run P w = stored P w a (.func f x y) m := run_store P w a _ m rfl
attribute [local go_sem] run_store_func Oper.semAt_some

/-- The log and the document's, between two adds. -/
def LI (n g p : Nat) (R : List Comp) (W : World) : Prop := ∃ t : Tw, t.g = g ∧ t.p = p ∧ t.ok n ∧ All (logP t.g t.h t.b (t.b + t.L.length) n t.ps ++ (refP t.p n t.b t.v t.L ++ R)) W

def lowB2 (l : List Oper) : Bool := (List.range l.length).all fun i => match l[i]? with | none => true | some o => o.after.toList.all fun e => !(Region.binds .any e) || decide (e.on < i)
theorem lowB2_spec {l : List Oper} (h : lowB2 l = true) : ∀ (i : Nat) (o : Oper), l.toArray[i]? = some o → ∀ e ∈ o.after, Region.binds .any e = true → e.on < i := by
  intro i o ho e he hb
  rw [List.getElem?_toArray] at ho
  have hi := (List.getElem?_eq_some_iff.1 ho).1
  have := List.all_eq_true.1 h i (List.mem_range.2 hi)
  rw [ho] at this
  have h2 := List.all_eq_true.1 this e (by simpa using he)
  rw [hb] at h2
  simpa using h2
/-- The parts of the statement that keeps what there is when the range begins. -/
def pts14 (g5 g9 g10 g11 g12 : Bool) (n b q : Nat) (v2 : Value) (L : List Ent) (B14 B15 : Nat) : List Comp :=
  (if g5 = true then refP q n b v2 L else []) ++ ((if g9 = true then [blkC B14 [if g11 = true then .int .i64 (b : Int) else .int .i64 0] 3] else []) ++ (if g10 = true then [blkC B15 [if g12 = true then v2 else .slice none 0 0] 40] else []))
def Inv14 (pre mid suf : List Value) (n b p : Nat) (L : List Ent) (S0 : List Comp) (G : Nat → Bool) (ac : Act) (w : World) : Prop :=
  ∃ (t0 t1 t2 t3 t4 t5 t6 t7 t8 s14 s15 v2 : Value) (q B14 B15 : Nat), ac = { tmps := (pre ++ ([s14, s15] ++ (mid ++ ([t0, t1, t2, t3, t4, t5, t6, t7, t8] ++ suf)))).toArray, defers := [] } ∧
    (G 0 = true → t0 = .pointer (some ⟨p, 0, none⟩)) ∧ (G 1 = true → t1 = .pointer (some ⟨p, 0, none⟩)) ∧ (G 2 = true → t2 = .pointer (some ⟨p, 1, none⟩)) ∧ (G 3 = true → t3 = .int .i64 (b : Int)) ∧ (G 4 = true → t4 = .pointer (some ⟨p, 0, none⟩)) ∧
    (G 5 = true → t5 = .pointer (some ⟨q, 0, none⟩)) ∧ (G 6 = true → t6 = .pointer (some ⟨q, 0, none⟩)) ∧ (G 7 = true → t7 = .pointer (some ⟨q, 2, none⟩)) ∧ (G 8 = true → t8 = v2) ∧ (G 9 = true → s14 = .pointer (some ⟨B14, 0, none⟩)) ∧ (G 10 = true → s15 = .pointer (some ⟨B15, 0, none⟩)) ∧
    Hid (All (pts14 (G 5) (G 9) (G 10) (G 11) (G 12) n b q v2 L B14 B15 ++ S0) w) ∧ (G 6 = true → G 5 = true) ∧ (G 7 = true → G 5 = true) ∧ (G 8 = true → G 5 = true) ∧ (G 11 = true → G 9 = true) ∧ (G 12 = true → G 10 = true) ∧ (G 12 = true → G 5 = true)
theorem All.perm14 {A B C D : List Comp} {w : World} (h : All ((A ++ (B ++ C)) ++ D) w) : All (B ++ (A ++ (C ++ D))) w ∧ All (C ++ (A ++ (B ++ D))) w := by
  have h1 := perm_by 4 [A, B, C, D] [1, 0, 2, 3] rfl (by decide)
  have h2 := perm_by 4 [A, B, C, D] [2, 0, 1, 3] rfl (by decide)
  exact ⟨h.perm (by simpa [List.getD] using h1), h.perm (by simpa [List.getD] using h2)⟩
theorem All.back9 {A B C D : List Comp} {w : World} (h : All (B ++ (A ++ (C ++ D))) w) : All ((A ++ (B ++ C)) ++ D) w := by
  have h1 := perm_by 4 [B, A, C, D] [1, 0, 2, 3] rfl (by decide)
  exact h.perm (by simpa [List.getD] using h1)
theorem All.back10 {A B C D : List Comp} {w : World} (h : All (C ++ (A ++ (B ++ D))) w) : All ((A ++ (B ++ C)) ++ D) w := by
  have h1 := perm_by 4 [C, A, B, D] [1, 2, 0, 3] rfl (by decide)
  exact h.perm (by simpa [List.getD] using h1)

set_option maxHeartbeats 8000000 in
set_option maxRecDepth 1000000 in
theorem range_walk {w : World} {fv sv : Value} {fs : List Ent} {acts : List Act0} (hf : EntsW w fv fs) (hs : ActsAt w sv acts) (hlf : fs.length ≤ 4398046511104) (hlen : acts.length ≤ 1099511627744) (room : Int) : Calls Try.prog 4 #[.int .i64 room, fv, sv] w fun e w' => e = .returned (.bool true) ∧ Below w.heap.size w w' := by
  obtain ⟨fo, fc, rfl, hfc, _, hfx⟩ := id hf
  obtain ⟨ao, cp, rfl⟩ := acts_form hs
  have HS := hid hs
  have HFX := hid hfx
  clear hs hfx hf
  by_cases hroom : 1 ≤ room ∧ room ≤ 64
  case neg => exact range_no room hroom
  obtain ⟨n, rfl⟩ : ∃ n : Nat, room = (n : Int) := ⟨room.toNat, by omega⟩
  have h0 : 0 < n := by omega
  have hn : n ≤ 64 := by omega
  have A2 := ((All.came w).addBlk [.slice ao acts.length cp] 22).addBlk [.bool false] 4
  simp only [World.size_alloc] at A2
  obtain ⟨R0, hR0⟩ : ∃ R0, Hid (R0 = [blkC (w.heap.size + 1) [.bool false] 4, blkC w.heap.size [.slice ao acts.length cp] 22, inC w]) := ⟨_, hid rfl⟩
  have A2 : All R0 ((w.alloc (.cells #[.slice ao acts.length cp] 22)).alloc (.cells #[.bool false] 4)) := by rw [hR0.out]; exact A2
  have H1 := hid (New_ok A2 n h0 hn)
  clear hroom A2
  refine (callsIn_wide (n := 20)).1 ?_
  refine callsIn_of_wp_marks Try.func4 rfl trivial ?_ rfl
  simp only [Try.ntmps4, List.size_toArray, List.length_cons, List.length_nil, Nat.reduceAdd, Nat.reduceSub, Array.replicate_succ, Array.replicate_zero, List.push_toArray, List.append_toArray, List.nil_append, List.cons_append]
  refine wpIn_wide.2 ?_
  go_wp2_with fail
  refine H1.out.mono ?_
  rintro e w1 ⟨g, h, rfl, A1⟩
  have A2 := A1.addBlk [.pointer (some ⟨g, 0, none⟩)] 23
  have H2 := hid (rNew_ok A2 n h0 hn)
  clear A1 H1 A2
  go_wp2_with fail
  refine H2.out.mono ?_
  rintro e w2 ⟨p, rfl, A2⟩
  obtain ⟨R, hR⟩ : ∃ R, Hid (R = blkC w2.heap.size [.pointer (some ⟨p, 0, none⟩)] 27 :: blkC w1.heap.size [.pointer (some ⟨g, 0, none⟩)] 23 :: R0) := ⟨_, hid rfl⟩
  have HI : Hid (LI n g p R (w2.alloc (.cells #[.pointer (some ⟨p, 0, none⟩)] 27))) := hid ⟨⟨g, h, p, 0, .slice none 0 0, [], List.replicate n Ent.zero⟩, rfl, rfl, LogOk.new h0 hn 0 (by omega), by
    refine (A2.addBlk [.pointer (some ⟨p, 0, none⟩)] 27).perm ?_
    rw [hR.out]
    have := perm_by 5 [[blkC w2.heap.size [.pointer (some ⟨p, 0, none⟩)] 27], refP p n 0 (.slice none 0 0) [], [blkC w1.heap.size [.pointer (some ⟨g, 0, none⟩)] 23], logP g h 0 0 n (List.replicate n Ent.zero), R0] [3, 1, 0, 2, 4] rfl (by decide)
    simpa [List.getD] using this⟩
  have c7 : (w2.alloc (.cells #[.pointer (some ⟨p, 0, none⟩)] 27)).cell? ⟨w1.heap.size, 0, none⟩ = some (.pointer (some ⟨g, 0, none⟩)) := by
    obtain ⟨t, _, _, _, hA⟩ := HI.out
    have e := hA.blk (g := w1.heap.size) (vs := [.pointer (some ⟨g, 0, none⟩)]) (t := 23) (by rw [hR.out]; simp)
    rw [cell_at e]; rfl
  clear A2 H2
  go_wp2_with fail
  clear c7
  generalize (w2.alloc (.cells #[.pointer (some ⟨p, 0, none⟩)] 27)) = w3 at HI ⊢
  have RC : Hid (∀ (Y : List Comp) W, All (Y ++ R) W → W.cell? ⟨w1.heap.size, 0, none⟩ = some (.pointer (some ⟨g, 0, none⟩)) ∧ W.cell? ⟨w2.heap.size, 0, none⟩ = some (.pointer (some ⟨p, 0, none⟩)) ∧ Below w.heap.size w W) := hid (fun Y W hA => by
    have e1 := hA.blk (g := w1.heap.size) (vs := [.pointer (some ⟨g, 0, none⟩)]) (t := 23) (by rw [hR.out]; simp)
    have e2 := hA.blk (g := w2.heap.size) (vs := [.pointer (some ⟨p, 0, none⟩)]) (t := 27) (by rw [hR.out]; simp)
    exact ⟨by rw [cell_at e1]; rfl, by rw [cell_at e2]; rfl, hA.into (w0 := w) (by rw [hR.out, hR0.out]; simp)⟩)
  go_loopw [49] (fun iv wr => ∃ (i : Nat), i ≤ fs.length ∧ iv = .int .i64 (i : Int) ∧ Hid (LI n g p R wr)) (fun iv _ => fs.length - (intOf iv).toNat)
  case atStart => exact ⟨0, by omega, rfl, HI⟩
  case round =>
    clear HI
    obtain ⟨i, hi, rfl, HI⟩ := hrel
    obtain ⟨⟨g', h', p', b, v, L, ps⟩, hg', hp', hok, hA⟩ := HI.out
    simp only at hg' hp' hA
    subst hg' hp'
    have hok : LogOk b n L ps := hok
    by_cases hlt : i < fs.length
    · have l1 : decide ((i : Int) < (fs.length : Int)) = true := decide_eq_true (by omega)
      have l2 : (i : Int) < (fs.length : Int) := by omega
      obtain ⟨x, hx⟩ : ∃ x, fs[i]? = some x := ⟨_, List.getElem?_eq_getElem hlt⟩
      obtain ⟨gf, of, rfl, hgf, hrx⟩ := HFX.out i x hx
      have hA' : All ((logP g' h' b (b + L.length) n ps ++ refP p' n b v L) ++ R) wr := by rw [List.append_assoc]; exact hA
      obtain ⟨c7, c9, hbw⟩ := RC.out _ _ hA'
      obtain ⟨y1, y2, y3, y4, y5, y6, y7⟩ := entAt_of (x := x) (fun j v hv => cell_under hbw hgf (hrx j v hv))
      have hgn : gf ≠ wr.heap.size := by have := hbw.size; omega
      have A4 : Hid (All (logP g' h' b (b + L.length) n ps ++ (refP p' n b v L ++ (blkC wr.heap.size x.cells 39 :: R))) (wr.alloc (.cells x.cells.toArray 39))) := hid ((hA.addBlk x.cells 39).perm (by
        have := perm_by 4 [[blkC wr.heap.size x.cells 39], logP g' h' b (b + L.length) n ps, refP p' n b v L, R] [1, 2, 0, 3] rfl (by decide)
        simpa [List.getD] using this))
      have EW : Hid (x.cells.toArray = #[.int .i64 x.c, .int .i64 x.n, .int .i64 x.k, .string x.nm, .string x.tx, .int .i64 x.m, .int .i64 x.q]) := hid rfl
      have hok := hid hok
      clear hA hA' HI hrx hx c7 c9
      go_upto_region 10 with fail
      clear y1 y2 y3 y4 y5 y6 y7
      rw [← EW.out]
      generalize wr.alloc (.cells x.cells.toArray 39) = w4 at A4 ⊢
      generalize wr.heap.size = E at A4 hgn ⊢
      have C17 := hid (Add_any A4.out.drew hok.out x)
      have C18 := hid (fun W Z (A : All (refP p' n b v L ++ Z) W) => rAdd_any (w := W) (cs := Z) A hok.out.le hok.out.few hok.out.top x)
      generalize hq : addE b n L = q at *
      have HQ := hid hq
      clear hq
      have CC : Hid (∀ (Y : List Comp) W, All (Y ++ (blkC E x.cells 39 :: R)) W → W.cell? ⟨w1.heap.size, 0, none⟩ = some (.pointer (some ⟨g', 0, none⟩)) ∧ W.cell? ⟨w2.heap.size, 0, none⟩ = some (.pointer (some ⟨p', 0, none⟩)) ∧ entAt W E 0 x) := hid (fun Y W hA => by
        obtain ⟨a1, a2, _⟩ := RC.out (Y ++ [blkC E x.cells 39]) W (by simpa using hA)
        exact ⟨a1, a2, entAt_of (range_one (hA.blk (t := 39) (by simp)))⟩)
      obtain ⟨c7, c9, s1, s2, s3, s4, s5, s6, s7⟩ := CC.out (logP g' h' b (b + L.length) n ps ++ refP p' n b v L) _ (by rw [List.append_assoc]; exact A4.out)
      simp only [Nat.zero_add] at s1 s2 s3 s4 s5 s6 s7
      go_region_held3 (fun W => W.cell? ⟨w1.heap.size, 0, none⟩ = some (.pointer (some ⟨g', 0, none⟩)) ∧ W.cell? ⟨w2.heap.size, 0, none⟩ = some (.pointer (some ⟨p', 0, none⟩)) ∧ W.cell? ⟨E, 0, none⟩ = some (.int .i64 x.c) ∧ W.cell? ⟨E, 1, none⟩ = some (.int .i64 x.n) ∧ W.cell? ⟨E, 2, none⟩ = some (.int .i64 x.k) ∧ W.cell? ⟨E, 3, none⟩ = some (.string x.nm) ∧ W.cell? ⟨E, 4, none⟩ = some (.string x.tx) ∧ W.cell? ⟨E, 5, none⟩ = some (.int .i64 x.m) ∧ W.cell? ⟨E, 6, none⟩ = some (.int .i64 x.q)) (go_keep)
        (first
          | (go_at_call 17; refine C17.out.mono ?_; rintro e w5 ⟨rfl, l', ps', hl', hk', A5⟩; have A5 := hid A5; obtain ⟨c7, c9, s1, s2, s3, s4, s5, s6, s7⟩ := CC.out (logP g' h' b (b + l'.length) n ps' ++ refP p' n b v L) _ (by rw [List.append_assoc]; exact A5.out); simp only [Nat.zero_add] at s1 s2 s3 s4 s5 s6 s7)
          | (go_at_call 18; refine (C18.out _ _ A5.out.flip).mono ?_; rintro e w6 ⟨rfl, v', l'', hl'', A6⟩; have A6 := hid A6; obtain ⟨c7, c9, s1, s2, s3, s4, s5, s6, s7⟩ := CC.out (refP p' n b v' l'' ++ logP g' h' b (b + l'.length) n ps') _ (by rw [List.append_assoc]; exact A6.out); simp only [Nat.zero_add] at s1 s2 s3 s4 s5 s6 s7))
      have HN : Hid (LI n g' p' R w6) := hid (by
        have hE := hl''.trans hl'.symm
        have A7 := A6.out.flip
        rw [hE] at A7
        exact ⟨⟨g', h', p', b, v', l', ps'⟩, rfl, rfl, hk', A7.sublist (List.Sublist.append (.refl _) (List.Sublist.append (.refl _) (.cons _ (.refl _))))⟩)
      clear hl' hl'' s1 s2 s3 s4 s5 s6 s7 c7 c9 C17 C18 A4 A5 A6 CC
      go_wp2_with fail
      go_roundw
      case rel => exact ⟨i + 1, by omega, by go_num, HN⟩
      case measure => simp [intOf]; omega
    · have l1 : decide ((i : Int) < (fs.length : Int)) = false := decide_eq_false (by omega)
      have l2 : ¬ ((i : Int) < (fs.length : Int)) := by omega
      have HOK := hid hok
      clear hok
      have A1 := hid hA
      obtain ⟨c7, c9, _⟩ := RC.out (logP g' h' b (b + L.length) n ps ++ refP p' n b v L) _ (by rw [List.append_assoc]; exact hA)
      have C19 := hid (All_any (w := wr) (g := g'))
      obtain ⟨Bb, hBb⟩ : ∃ Bb, Hid (Bb = wr.heap.size) := ⟨_, hid rfl⟩
      have A2 : Hid (All (logP g' h' b (b + L.length) n ps ++ (refP p' n b v L ++ (blkC (Bb + 1) [.func (.func 40) #[] #[.pointer (some ⟨Bb, 0, none⟩)]] 53 :: blkC Bb [.pointer (some ⟨g', 0, none⟩)] 23 :: R))) ((wr.alloc (.cells #[.pointer (some ⟨g', 0, none⟩)] 23)).alloc (.cells #[.func (.func 40) #[] #[.pointer (some ⟨Bb, 0, none⟩)]] 53))) := hid (by
        have h1 := (hA.addBlk [.pointer (some ⟨g', 0, none⟩)] 23).addBlk [.func (.func 40) #[] #[.pointer (some ⟨Bb, 0, none⟩)]] 53
        simp only [World.size_alloc] at h1
        rw [← hBb.out] at h1
        refine h1.perm ?_
        have := perm_by 4 [[blkC (Bb + 1) [.func (.func 40) #[] #[.pointer (some ⟨Bb, 0, none⟩)]] 53, blkC Bb [.pointer (some ⟨g', 0, none⟩)] 23], logP g' h' b (b + L.length) n ps, refP p' n b v L, R] [1, 2, 0, 3] rfl (by decide)
        simpa [List.getD] using this)
      clear hA HI hi hlt
      go_wp2_with fail
      refine C19.out.mono ?_
      rintro e w4 ⟨rfl, rfl⟩
      clear C19 c7 c9
      go_upto_region 14 with fail
      rw [← hBb.out]
      generalize ((wr.alloc (.cells #[.pointer (some ⟨g', 0, none⟩)] 23)).alloc (.cells #[.func (.func 40) #[] #[.pointer (some ⟨Bb, 0, none⟩)]] 53)) = w5 at A2 ⊢
      have CELL : Hid (∀ (Y : List Comp) W, All (Y ++ (logP g' h' b (b + L.length) n ps ++ (refP p' n b v L ++ (blkC (Bb + 1) [.func (.func 40) #[] #[.pointer (some ⟨Bb, 0, none⟩)]] 53 :: blkC Bb [.pointer (some ⟨g', 0, none⟩)] 23 :: R)))) W → W.cell? ⟨w2.heap.size, 0, none⟩ = some (.pointer (some ⟨p', 0, none⟩)) ∧ W.cell? ⟨p', 1, none⟩ = some (.int .i64 (b : Int))) := hid (fun Y W hA => by
        have e2 := hA.blk (g := w2.heap.size) (vs := [.pointer (some ⟨p', 0, none⟩)]) (t := 27) (by rw [hR.out]; simp)
        have e3 := hA.blk (g := p') (vs := [.int .i64 (n : Int), .int .i64 (b : Int), v]) (t := 47) (by simp [refP])
        exact ⟨by rw [cell_at e2]; rfl, by rw [cell_at e3]; rfl⟩)
      have C20 := hid (fun W Z (A : All (refP p' n b v L ++ Z) W) => rClone_any (w := W) (cs := Z) A (Nat.le_trans HOK.out.few HOK.out.le))
      refine (wpIn_wide (n := 20)).1 ?_
      refine region_inv (by kernel_rfl) (Inv14 [Value.int IntKind.i64 ↑n, Value.slice fo fs.length fc, Value.slice ao acts.length cp, undef, undef, Value.pointer (some { block := w.heap.size, off := 0 }), Value.pointer (some { block := w.heap.size + 1, off := 0 }), Value.pointer (some { block := w1.heap.size, off := 0 }), Value.int IntKind.i64 0, Value.pointer (some { block := w2.heap.size, off := 0 }), Value.int IntKind.i64 0, undef, u12, Value.pointer (some { block := Bb + 1, off := 0 })] [undef, undef, undef, undef, undef, undef, undef, Value.tuple #[Value.pointer (some { block := g', off := 0 }), Value.int IntKind.i64 0], Value.int IntKind.i64 ↑n, Value.tuple #[Value.pointer (some { block := g', off := 0 }), Value.int IntKind.i64 0], Value.pointer (some { block := g', off := 0 }), Value.int IntKind.i64 0, Value.tuple #[Value.pointer (some { block := p', off := 0 }), Value.int IntKind.i64 0], Value.int IntKind.i64 ↑n, Value.tuple #[Value.pointer (some { block := p', off := 0 }), Value.int IntKind.i64 0], Value.pointer (some { block := p', off := 0 }), Value.int IntKind.i64 0, Value.pointer (some { block := p', off := 0 }), Value.bool false, undef, undef, undef, undef, undef, undef, Value.int IntKind.i64 0, Value.bool false, Value.bool false, Value.pointer (some { block := g', off := 0 }), Value.bool false, Value.bool false, Value.slice fo fs.length fc, Value.int IntKind.i64 ↑fs.length, Value.int IntKind.i64 ↑i, Value.bool false, u51, u52, u53, u54, u55, u56, u57, u58, u59, u60, Value.pointer (some { block := g', off := 0 }), Value.func (Fn.func 40) #[] #[Value.pointer (some { block := Bb, off := 0 })]] [undef, undef, undef, undef, undef, undef, undef, undef, undef, undef, undef, undef, undef, undef, undef, undef, undef, undef, undef, undef, undef, undef, undef, undef, undef, undef, undef, undef, undef, undef, undef, undef, undef, undef, undef, undef, undef, undef, undef, undef, undef, undef, undef, undef, undef, undef, undef, undef, undef, undef, undef, undef, undef, undef, undef, undef, undef, undef, undef, undef, undef, undef, undef, undef, undef, undef, undef, undef, undef, undef, undef, undef, undef, undef, undef, undef, undef, undef, undef, undef, undef, undef, undef, undef, undef, undef, undef, undef, undef, undef, undef, undef, undef, undef, undef, undef, undef, undef, undef, undef, undef, undef, undef, undef, undef, undef, undef, undef, undef, undef, undef, undef, undef, undef, undef, undef, undef, undef] n b p' L (logP g' h' b (b + L.length) n ps ++ (refP p' n b v L ++ (blkC (Bb + 1) [.func (.func 40) #[] #[.pointer (some ⟨Bb, 0, none⟩)]] 53 :: blkC Bb [.pointer (some ⟨g', 0, none⟩)] 23 :: R)))) (lowB2_spec (by kernel_rfl)) ?h0 ?hstep ?hdone
      case h0 => exact ⟨_, _, _, _, _, _, _, _, _, _, _, .slice none 0 0, 0, 0, 0, rfl, (fun h => by cases h), (fun h => by cases h), (fun h => by cases h), (fun h => by cases h), (fun h => by cases h), (fun h => by cases h), (fun h => by cases h), (fun h => by cases h), (fun h => by cases h), (fun h => by cases h), (fun h => by cases h), hid (by simpa [pts14] using A2.out.drew), (fun h => by cases h), (fun h => by cases h), (fun h => by cases h), (fun h => by cases h), (fun h => by cases h), (fun h => by cases h)⟩
      case hstep =>
        intro G i9 o9 ac w9 ho hG hd hI
        have hi9 : i9 < 13 := (Array.getElem?_eq_some_iff.1 ho).1
        obtain ⟨t0, t1, t2, t3, t4, t5, t6, t7, t8, s14, s15, v2, q, B14, B15, rfl, g0, g1, g2, g3, g4, g5, g6, g7, g8, g9, g10, HA, k6, k7, k8, k11, k12, k12b⟩ := hI
        obtain ⟨cB, cP⟩ := CELL.out _ _ HA.out
        have hcs : i9 = 0 ∨ i9 = 1 ∨ i9 = 2 ∨ i9 = 3 ∨ i9 = 4 ∨ i9 = 5 ∨ i9 = 6 ∨ i9 = 7 ∨ i9 = 8 ∨ i9 = 9 ∨ i9 = 10 ∨ i9 = 11 ∨ i9 = 12 := by omega
        rcases hcs with rfl | rfl | rfl | rfl | rfl | rfl | rfl | rfl | rfl | rfl | rfl | rfl | rfl
        · have ho : _ = o9 := Option.some.inj ho
          subst ho
          have HH := hid (show _ ∧ _ ∧ _ ∧ _ ∧ _ ∧ _ ∧ _ ∧ _ ∧ _ ∧ _ ∧ _ ∧ _ ∧ _ ∧ _ ∧ _ ∧ _ ∧ _ ∧ _ from ⟨g0, g1, g2, g3, g4, g5, g6, g7, g8, g9, g10, HA, k6, k7, k8, k11, k12, k12b⟩)
          clear g0 g1 g2 g3 g4 g5 g6 g7 g8 g9 g10 k6 k7 k8 k11 k12 k12b HA hd
          refine wpOpIn_of rfl rfl ?_
          simp only [List.cons_append, List.nil_append]
          gi_wp2
          obtain ⟨g0, g1, g2, g3, g4, g5, g6, g7, g8, g9, g10, HA, k6, k7, k8, k11, k12, k12b⟩ := HH.out
          exact ⟨_, _, _, _, _, _, _, _, _, _, _, v2, q, B14, B15, rfl, (fun _ => rfl), (fun h => g1 (by simpa using h)), (fun h => g2 (by simpa using h)), (fun h => g3 (by simpa using h)), (fun h => g4 (by simpa using h)), (fun h => g5 (by simpa using h)), (fun h => g6 (by simpa using h)), (fun h => g7 (by simpa using h)), (fun h => g8 (by simpa using h)), (fun h => g9 (by simpa using h)), (fun h => g10 (by simpa using h)), hid (by simpa [pts14] using HA.out), (fun h => by simpa using k6 (by simpa using h)), (fun h => by simpa using k7 (by simpa using h)), (fun h => by simpa using k8 (by simpa using h)), (fun h => by simpa using k11 (by simpa using h)), (fun h => by simpa using k12 (by simpa using h)), (fun h => by simpa using k12b (by simpa using h))⟩
        · have ho : _ = o9 := Option.some.inj ho
          subst ho
          have d0 : G 0 = true := hd ⟨0, .data⟩ (by simp) rfl
          obtain rfl := g0 d0
          have HH := hid (show _ ∧ _ ∧ _ ∧ _ ∧ _ ∧ _ ∧ _ ∧ _ ∧ _ ∧ _ ∧ _ ∧ _ ∧ _ ∧ _ ∧ _ ∧ _ ∧ _ ∧ _ from ⟨g0, g1, g2, g3, g4, g5, g6, g7, g8, g9, g10, HA, k6, k7, k8, k11, k12, k12b⟩)
          clear g0 g1 g2 g3 g4 g5 g6 g7 g8 g9 g10 k6 k7 k8 k11 k12 k12b HA hd
          refine wpOpIn_of rfl rfl ?_
          simp only [List.cons_append, List.nil_append]
          gi_wp2
          obtain ⟨g0, g1, g2, g3, g4, g5, g6, g7, g8, g9, g10, HA, k6, k7, k8, k11, k12, k12b⟩ := HH.out
          exact ⟨_, _, _, _, _, _, _, _, _, _, _, v2, q, B14, B15, rfl, (fun _ => rfl), (fun _ => rfl), (fun h => g2 (by simpa using h)), (fun h => g3 (by simpa using h)), (fun h => g4 (by simpa using h)), (fun h => g5 (by simpa using h)), (fun h => g6 (by simpa using h)), (fun h => g7 (by simpa using h)), (fun h => g8 (by simpa using h)), (fun h => g9 (by simpa using h)), (fun h => g10 (by simpa using h)), hid (by simpa [pts14] using HA.out), (fun h => by simpa using k6 (by simpa using h)), (fun h => by simpa using k7 (by simpa using h)), (fun h => by simpa using k8 (by simpa using h)), (fun h => by simpa using k11 (by simpa using h)), (fun h => by simpa using k12 (by simpa using h)), (fun h => by simpa using k12b (by simpa using h))⟩
        · have ho : _ = o9 := Option.some.inj ho
          subst ho
          have d1 : G 1 = true := hd ⟨1, .data⟩ (by simp) rfl
          obtain rfl := g1 d1
          have HH := hid (show _ ∧ _ ∧ _ ∧ _ ∧ _ ∧ _ ∧ _ ∧ _ ∧ _ ∧ _ ∧ _ ∧ _ ∧ _ ∧ _ ∧ _ ∧ _ ∧ _ ∧ _ from ⟨g0, g1, g2, g3, g4, g5, g6, g7, g8, g9, g10, HA, k6, k7, k8, k11, k12, k12b⟩)
          clear g0 g1 g2 g3 g4 g5 g6 g7 g8 g9 g10 k6 k7 k8 k11 k12 k12b HA hd
          refine wpOpIn_of rfl rfl ?_
          simp only [List.cons_append, List.nil_append]
          gi_wp2
          obtain ⟨g0, g1, g2, g3, g4, g5, g6, g7, g8, g9, g10, HA, k6, k7, k8, k11, k12, k12b⟩ := HH.out
          exact ⟨_, _, _, _, _, _, _, _, _, _, _, v2, q, B14, B15, rfl, (fun h => g0 (by simpa using h)), (fun _ => rfl), (fun _ => rfl), (fun h => g3 (by simpa using h)), (fun h => g4 (by simpa using h)), (fun h => g5 (by simpa using h)), (fun h => g6 (by simpa using h)), (fun h => g7 (by simpa using h)), (fun h => g8 (by simpa using h)), (fun h => g9 (by simpa using h)), (fun h => g10 (by simpa using h)), hid (by simpa [pts14] using HA.out), (fun h => by simpa using k6 (by simpa using h)), (fun h => by simpa using k7 (by simpa using h)), (fun h => by simpa using k8 (by simpa using h)), (fun h => by simpa using k11 (by simpa using h)), (fun h => by simpa using k12 (by simpa using h)), (fun h => by simpa using k12b (by simpa using h))⟩
        · have ho : _ = o9 := Option.some.inj ho
          subst ho
          have d2 : G 2 = true := hd ⟨2, .data⟩ (by simp) rfl
          obtain rfl := g2 d2
          have HH := hid (show _ ∧ _ ∧ _ ∧ _ ∧ _ ∧ _ ∧ _ ∧ _ ∧ _ ∧ _ ∧ _ ∧ _ ∧ _ ∧ _ ∧ _ ∧ _ ∧ _ ∧ _ from ⟨g0, g1, g2, g3, g4, g5, g6, g7, g8, g9, g10, HA, k6, k7, k8, k11, k12, k12b⟩)
          clear g0 g1 g2 g3 g4 g5 g6 g7 g8 g9 g10 k6 k7 k8 k11 k12 k12b HA hd
          refine wpOpIn_of rfl rfl ?_
          simp only [List.cons_append, List.nil_append]
          gi_wp2
          obtain ⟨g0, g1, g2, g3, g4, g5, g6, g7, g8, g9, g10, HA, k6, k7, k8, k11, k12, k12b⟩ := HH.out
          exact ⟨_, _, _, _, _, _, _, _, _, _, _, v2, q, B14, B15, rfl, (fun h => g0 (by simpa using h)), (fun h => g1 (by simpa using h)), (fun _ => rfl), (fun _ => rfl), (fun h => g4 (by simpa using h)), (fun h => g5 (by simpa using h)), (fun h => g6 (by simpa using h)), (fun h => g7 (by simpa using h)), (fun h => g8 (by simpa using h)), (fun h => g9 (by simpa using h)), (fun h => g10 (by simpa using h)), hid (by simpa [pts14] using HA.out), (fun h => by simpa using k6 (by simpa using h)), (fun h => by simpa using k7 (by simpa using h)), (fun h => by simpa using k8 (by simpa using h)), (fun h => by simpa using k11 (by simpa using h)), (fun h => by simpa using k12 (by simpa using h)), (fun h => by simpa using k12b (by simpa using h))⟩
        · have ho : _ = o9 := Option.some.inj ho
          subst ho
          have HH := hid (show _ ∧ _ ∧ _ ∧ _ ∧ _ ∧ _ ∧ _ ∧ _ ∧ _ ∧ _ ∧ _ ∧ _ ∧ _ ∧ _ ∧ _ ∧ _ ∧ _ ∧ _ from ⟨g0, g1, g2, g3, g4, g5, g6, g7, g8, g9, g10, HA, k6, k7, k8, k11, k12, k12b⟩)
          clear g0 g1 g2 g3 g4 g5 g6 g7 g8 g9 g10 k6 k7 k8 k11 k12 k12b HA hd
          refine wpOpIn_of rfl rfl ?_
          simp only [List.cons_append, List.nil_append]
          gi_wp2
          obtain ⟨g0, g1, g2, g3, g4, g5, g6, g7, g8, g9, g10, HA, k6, k7, k8, k11, k12, k12b⟩ := HH.out
          exact ⟨_, _, _, _, _, _, _, _, _, _, _, v2, q, B14, B15, rfl, (fun h => g0 (by simpa using h)), (fun h => g1 (by simpa using h)), (fun h => g2 (by simpa using h)), (fun h => g3 (by simpa using h)), (fun _ => rfl), (fun h => g5 (by simpa using h)), (fun h => g6 (by simpa using h)), (fun h => g7 (by simpa using h)), (fun h => g8 (by simpa using h)), (fun h => g9 (by simpa using h)), (fun h => g10 (by simpa using h)), hid (by simpa [pts14] using HA.out), (fun h => by simpa using k6 (by simpa using h)), (fun h => by simpa using k7 (by simpa using h)), (fun h => by simpa using k8 (by simpa using h)), (fun h => by simpa using k11 (by simpa using h)), (fun h => by simpa using k12 (by simpa using h)), (fun h => by simpa using k12b (by simpa using h))⟩
        · have ho : _ = o9 := Option.some.inj ho
          subst ho
          have d4 : G 4 = true := hd ⟨4, .data⟩ (by simp) rfl
          obtain rfl := g4 d4
          have n6 : G 6 = false := by cases h : G 6 with | false => rfl | true => rw [k6 h] at hG; cases hG
          have n7 : G 7 = false := by cases h : G 7 with | false => rfl | true => rw [k7 h] at hG; cases hG
          have n8 : G 8 = false := by cases h : G 8 with | false => rfl | true => rw [k8 h] at hG; cases hG
          have n12 : G 12 = false := by cases h : G 12 with | false => rfl | true => rw [k12b h] at hG; cases hG
          have C5 := hid (C20.out _ _ (show All (refP p' n b v L ++ (pts14 (G 5) (G 9) (G 10) (G 11) (G 12) n b q v2 L B14 B15 ++ (logP g' h' b (b + L.length) n ps ++ (blkC (Bb + 1) [.func (.func 40) #[] #[.pointer (some ⟨Bb, 0, none⟩)]] 53 :: blkC Bb [.pointer (some ⟨g', 0, none⟩)] 23 :: R)))) w9 from HA.out.perm (by
            have := perm_by 4 [pts14 (G 5) (G 9) (G 10) (G 11) (G 12) n b q v2 L B14 B15, logP g' h' b (b + L.length) n ps, refP p' n b v L, (blkC (Bb + 1) [.func (.func 40) #[] #[.pointer (some ⟨Bb, 0, none⟩)]] 53 :: blkC Bb [.pointer (some ⟨g', 0, none⟩)] 23 :: R)] [2, 0, 1, 3] rfl (by decide)
            simpa [List.getD] using this)))
          have HH := hid (show _ ∧ _ ∧ _ ∧ _ ∧ _ ∧ _ ∧ _ ∧ _ ∧ _ ∧ _ ∧ _ ∧ _ ∧ _ ∧ _ ∧ _ ∧ _ ∧ _ ∧ _ from ⟨g0, g1, g2, g3, g4, g5, g6, g7, g8, g9, g10, HA, k6, k7, k8, k11, k12, k12b⟩)
          clear g0 g1 g2 g3 g4 g5 g6 g7 g8 g9 g10 k6 k7 k8 k11 k12 k12b HA hd
          refine wpOpIn_of rfl rfl ?_
          simp only [List.cons_append, List.nil_append]
          gi_wp2
          refine ⟨trivial, (callsIn_wide.2 C5.out).mono ?_⟩
          rintro e w10 ⟨q5, v5, rfl, A5⟩
          have A5 := hid A5
          gi_wp2
          obtain ⟨g0, g1, g2, g3, g4, g5, g6, g7, g8, g9, g10, HA, k6, k7, k8, k11, k12, k12b⟩ := HH.out
          exact ⟨_, _, _, _, _, _, _, _, _, _, _, v5, q5, B14, B15, rfl, (fun h => g0 (by simpa using h)), (fun h => g1 (by simpa using h)), (fun h => g2 (by simpa using h)), (fun h => g3 (by simpa using h)), (fun _ => rfl), (fun _ => rfl), (fun h => absurd (show G 6 = true by simpa using h) (by rw [n6]; decide)), (fun h => absurd (show G 7 = true by simpa using h) (by rw [n7]; decide)), (fun h => absurd (show G 8 = true by simpa using h) (by rw [n8]; decide)), (fun h => g9 (by simpa using h)), (fun h => g10 (by simpa using h)), hid (by
            have h5 := A5.out
            have e5 : pts14 (G 5) (G 9) (G 10) (G 11) (G 12) n b q v2 L B14 B15 = pts14 false (G 9) (G 10) (G 11) false n b q5 v5 L B14 B15 := by rw [show G 5 = false from hG, n12]; rfl
            rw [e5] at h5
            have h6 := perm_by 5 [refP q5 n b v5 L, refP p' n b v L, pts14 false (G 9) (G 10) (G 11) false n b q5 v5 L B14 B15, logP g' h' b (b + L.length) n ps, (blkC (Bb + 1) [.func (.func 40) #[] #[.pointer (some ⟨Bb, 0, none⟩)]] 53 :: blkC Bb [.pointer (some ⟨g', 0, none⟩)] 23 :: R)] [0, 2, 3, 1, 4] rfl (by decide)
            have h7 := h5.perm (by simpa [List.getD] using h6)
            simpa [pts14, n12] using h7), (fun _ => by simp), (fun _ => by simp), (fun _ => by simp), (fun h => by simpa using k11 (by simpa using h)), (fun h => by simpa using k12 (by simpa using h)), (fun _ => by simp)⟩
        · have ho : _ = o9 := Option.some.inj ho
          subst ho
          have d5 : G 5 = true := hd ⟨5, .data⟩ (by simp) rfl
          obtain rfl := g5 d5
          have d5' : G 5 = true := d5
          have HH := hid (show _ ∧ _ ∧ _ ∧ _ ∧ _ ∧ _ ∧ _ ∧ _ ∧ _ ∧ _ ∧ _ ∧ _ ∧ _ ∧ _ ∧ _ ∧ _ ∧ _ ∧ _ from ⟨g0, g1, g2, g3, g4, g5, g6, g7, g8, g9, g10, HA, k6, k7, k8, k11, k12, k12b⟩)
          clear g0 g1 g2 g3 g4 g5 g6 g7 g8 g9 g10 k6 k7 k8 k11 k12 k12b HA hd
          refine wpOpIn_of rfl rfl ?_
          simp only [List.cons_append, List.nil_append]
          gi_wp2
          obtain ⟨g0, g1, g2, g3, g4, g5, g6, g7, g8, g9, g10, HA, k6, k7, k8, k11, k12, k12b⟩ := HH.out
          exact ⟨_, _, _, _, _, _, _, _, _, _, _, v2, q, B14, B15, rfl, (fun h => g0 (by simpa using h)), (fun h => g1 (by simpa using h)), (fun h => g2 (by simpa using h)), (fun h => g3 (by simpa using h)), (fun h => g4 (by simpa using h)), (fun _ => rfl), (fun _ => rfl), (fun h => g7 (by simpa using h)), (fun h => g8 (by simpa using h)), (fun h => g9 (by simpa using h)), (fun h => g10 (by simpa using h)), hid (by simpa [pts14] using HA.out), (fun _ => by simpa using d5'), (fun h => by simpa using k7 (by simpa using h)), (fun h => by simpa using k8 (by simpa using h)), (fun h => by simpa using k11 (by simpa using h)), (fun h => by simpa using k12 (by simpa using h)), (fun h => by simpa using k12b (by simpa using h))⟩
        · have ho : _ = o9 := Option.some.inj ho
          subst ho
          have d6 : G 6 = true := hd ⟨6, .data⟩ (by simp) rfl
          obtain rfl := g6 d6
          have d5' : G 5 = true := k6 d6
          have HH := hid (show _ ∧ _ ∧ _ ∧ _ ∧ _ ∧ _ ∧ _ ∧ _ ∧ _ ∧ _ ∧ _ ∧ _ ∧ _ ∧ _ ∧ _ ∧ _ ∧ _ ∧ _ from ⟨g0, g1, g2, g3, g4, g5, g6, g7, g8, g9, g10, HA, k6, k7, k8, k11, k12, k12b⟩)
          clear g0 g1 g2 g3 g4 g5 g6 g7 g8 g9 g10 k6 k7 k8 k11 k12 k12b HA hd
          refine wpOpIn_of rfl rfl ?_
          simp only [List.cons_append, List.nil_append]
          gi_wp2
          obtain ⟨g0, g1, g2, g3, g4, g5, g6, g7, g8, g9, g10, HA, k6, k7, k8, k11, k12, k12b⟩ := HH.out
          exact ⟨_, _, _, _, _, _, _, _, _, _, _, v2, q, B14, B15, rfl, (fun h => g0 (by simpa using h)), (fun h => g1 (by simpa using h)), (fun h => g2 (by simpa using h)), (fun h => g3 (by simpa using h)), (fun h => g4 (by simpa using h)), (fun h => g5 (by simpa using h)), (fun _ => rfl), (fun _ => rfl), (fun h => g8 (by simpa using h)), (fun h => g9 (by simpa using h)), (fun h => g10 (by simpa using h)), hid (by simpa [pts14] using HA.out), (fun h => by simpa using k6 (by simpa using h)), (fun _ => by simpa using d5'), (fun h => by simpa using k8 (by simpa using h)), (fun h => by simpa using k11 (by simpa using h)), (fun h => by simpa using k12 (by simpa using h)), (fun h => by simpa using k12b (by simpa using h))⟩
        · have ho : _ = o9 := Option.some.inj ho
          subst ho
          have d7 : G 7 = true := hd ⟨7, .data⟩ (by simp) rfl
          obtain rfl := g7 d7
          have d5 : G 5 = true := k7 d7
          have eq := HA.out.blk (g := q) (vs := [.int .i64 (n : Int), .int .i64 (b : Int), v2]) (t := 47) (by simp [pts14, d5, refP])
          have cq : w9.cell? ⟨q, 2, none⟩ = some v2 := by rw [cell_at eq]; rfl
          clear eq
          have HH := hid (show _ ∧ _ ∧ _ ∧ _ ∧ _ ∧ _ ∧ _ ∧ _ ∧ _ ∧ _ ∧ _ ∧ _ ∧ _ ∧ _ ∧ _ ∧ _ ∧ _ ∧ _ from ⟨g0, g1, g2, g3, g4, g5, g6, g7, g8, g9, g10, HA, k6, k7, k8, k11, k12, k12b⟩)
          clear g0 g1 g2 g3 g4 g5 g6 g7 g8 g9 g10 k6 k7 k8 k11 k12 k12b HA hd
          refine wpOpIn_of rfl rfl ?_
          simp only [List.cons_append, List.nil_append]
          gi_wp2
          obtain ⟨g0, g1, g2, g3, g4, g5, g6, g7, g8, g9, g10, HA, k6, k7, k8, k11, k12, k12b⟩ := HH.out
          exact ⟨_, _, _, _, _, _, _, _, _, _, _, v2, q, B14, B15, rfl, (fun h => g0 (by simpa using h)), (fun h => g1 (by simpa using h)), (fun h => g2 (by simpa using h)), (fun h => g3 (by simpa using h)), (fun h => g4 (by simpa using h)), (fun h => g5 (by simpa using h)), (fun h => g6 (by simpa using h)), (fun _ => rfl), (fun _ => rfl), (fun h => g9 (by simpa using h)), (fun h => g10 (by simpa using h)), hid (by simpa [pts14] using HA.out), (fun h => by simpa using k6 (by simpa using h)), (fun h => by simpa using k7 (by simpa using h)), (fun _ => by simpa using d5), (fun h => by simpa using k11 (by simpa using h)), (fun h => by simpa using k12 (by simpa using h)), (fun h => by simpa using k12b (by simpa using h))⟩
        · have ho : _ = o9 := Option.some.inj ho
          subst ho
          have n11 : G 11 = false := by cases h : G 11 with | false => rfl | true => rw [k11 h] at hG; cases hG
          have HH := hid (show _ ∧ _ ∧ _ ∧ _ ∧ _ ∧ _ ∧ _ ∧ _ ∧ _ ∧ _ ∧ _ ∧ _ ∧ _ ∧ _ ∧ _ ∧ _ ∧ _ ∧ _ from ⟨g0, g1, g2, g3, g4, g5, g6, g7, g8, g9, g10, HA, k6, k7, k8, k11, k12, k12b⟩)
          clear g0 g1 g2 g3 g4 g5 g6 g7 g8 g9 g10 k6 k7 k8 k11 k12 k12b HA hd
          refine wpOpIn_of rfl rfl ?_
          simp only [List.cons_append, List.nil_append]
          gi_wp2
          obtain ⟨g0, g1, g2, g3, g4, g5, g6, g7, g8, g9, g10, HA, k6, k7, k8, k11, k12, k12b⟩ := HH.out
          exact ⟨_, _, _, _, _, _, _, _, _, _, _, v2, q, w9.heap.size, B15, rfl, (fun h => g0 (by simpa using h)), (fun h => g1 (by simpa using h)), (fun h => g2 (by simpa using h)), (fun h => g3 (by simpa using h)), (fun h => g4 (by simpa using h)), (fun h => g5 (by simpa using h)), (fun h => g6 (by simpa using h)), (fun h => g7 (by simpa using h)), (fun h => g8 (by simpa using h)), (fun _ => rfl), (fun h => g10 (by simpa using h)), hid (by
            have h5 := HA.out.addBlk [.int .i64 0] 3
            have hG' : G 9 = false := hG
            unfold pts14 at h5
            simp only [hG', Bool.false_eq_true, if_false] at h5
            have h6 := All.back9 (B := [blkC w9.heap.size [.int .i64 0] 3]) (A := if G 5 = true then refP q n b v2 L else []) (C := if G 10 = true then [blkC B15 [if G 12 = true then v2 else .slice none 0 0] 40] else []) (by simpa using h5)
            simpa [pts14, n11] using h6), (fun h => by simpa using k6 (by simpa using h)), (fun h => by simpa using k7 (by simpa using h)), (fun h => by simpa using k8 (by simpa using h)), (fun _ => by simp), (fun h => by simpa using k12 (by simpa using h)), (fun h => by simpa using k12b (by simpa using h))⟩
        · have ho : _ = o9 := Option.some.inj ho
          subst ho
          have n12 : G 12 = false := by cases h : G 12 with | false => rfl | true => rw [k12 h] at hG; cases hG
          have HH := hid (show _ ∧ _ ∧ _ ∧ _ ∧ _ ∧ _ ∧ _ ∧ _ ∧ _ ∧ _ ∧ _ ∧ _ ∧ _ ∧ _ ∧ _ ∧ _ ∧ _ ∧ _ from ⟨g0, g1, g2, g3, g4, g5, g6, g7, g8, g9, g10, HA, k6, k7, k8, k11, k12, k12b⟩)
          clear g0 g1 g2 g3 g4 g5 g6 g7 g8 g9 g10 k6 k7 k8 k11 k12 k12b HA hd
          refine wpOpIn_of rfl rfl ?_
          simp only [List.cons_append, List.nil_append]
          gi_wp2
          obtain ⟨g0, g1, g2, g3, g4, g5, g6, g7, g8, g9, g10, HA, k6, k7, k8, k11, k12, k12b⟩ := HH.out
          exact ⟨_, _, _, _, _, _, _, _, _, _, _, v2, q, B14, w9.heap.size, rfl, (fun h => g0 (by simpa using h)), (fun h => g1 (by simpa using h)), (fun h => g2 (by simpa using h)), (fun h => g3 (by simpa using h)), (fun h => g4 (by simpa using h)), (fun h => g5 (by simpa using h)), (fun h => g6 (by simpa using h)), (fun h => g7 (by simpa using h)), (fun h => g8 (by simpa using h)), (fun h => g9 (by simpa using h)), (fun _ => rfl), hid (by
            have h5 := HA.out.addBlk [.slice none 0 0] 40
            have hG' : G 10 = false := hG
            unfold pts14 at h5
            simp only [hG', Bool.false_eq_true, if_false] at h5
            have h6 := All.back10 (C := [blkC w9.heap.size [.slice none 0 0] 40]) (A := if G 5 = true then refP q n b v2 L else []) (B := if G 9 = true then [blkC B14 [if G 11 = true then .int .i64 (b : Int) else .int .i64 0] 3] else []) (by simpa using h5)
            simpa [pts14, n12] using h6), (fun h => by simpa using k6 (by simpa using h)), (fun h => by simpa using k7 (by simpa using h)), (fun h => by simpa using k8 (by simpa using h)), (fun h => by simpa using k11 (by simpa using h)), (fun _ => by simp), (fun h => by simpa using k12b (by simpa using h))⟩
        · have ho : _ = o9 := Option.some.inj ho
          subst ho
          have d9 : G 9 = true := hd ⟨9, .data⟩ (by simp) rfl
          have d3 : G 3 = true := hd ⟨3, .data⟩ (by simp) rfl
          obtain rfl := g9 d9
          obtain rfl := g3 d3
          have n11 := hG
          have HB := HA.out
          unfold pts14 at HB
          rw [if_pos d9, n11] at HB
          have HC := HB.perm14.1
          have e14 := HC.1.2.1
          have c14 : w9.cell? ⟨B14, 0, none⟩ = some (.int .i64 0) := by rw [cell_at e14]; rfl
          have f14 := free_at e14 0
          have HD := hid (All.back9 (B := [blkC B14 [.int .i64 (b : Int)] 3]) (HC.setBlk 0 (.int .i64 (b : Int))))
          clear HB HC e14
          have HH := hid (show _ ∧ _ ∧ _ ∧ _ ∧ _ ∧ _ ∧ _ ∧ _ ∧ _ ∧ _ ∧ _ ∧ _ ∧ _ ∧ _ ∧ _ ∧ _ ∧ _ ∧ _ from ⟨g0, g1, g2, g3, g4, g5, g6, g7, g8, g9, g10, HA, k6, k7, k8, k11, k12, k12b⟩)
          clear g0 g1 g2 g3 g4 g5 g6 g7 g8 g9 g10 k6 k7 k8 k11 k12 k12b HA hd
          refine wpOpIn_of rfl rfl ?_
          simp only [List.cons_append, List.nil_append]
          gi_wp2
          obtain ⟨g0, g1, g2, g3, g4, g5, g6, g7, g8, g9, g10, HA, k6, k7, k8, k11, k12, k12b⟩ := HH.out
          exact ⟨_, _, _, _, _, _, _, _, _, _, _, v2, q, B14, B15, rfl, (fun h => g0 (by simpa using h)), (fun h => g1 (by simpa using h)), (fun h => g2 (by simpa using h)), (fun _ => rfl), (fun h => g4 (by simpa using h)), (fun h => g5 (by simpa using h)), (fun h => g6 (by simpa using h)), (fun h => g7 (by simpa using h)), (fun h => g8 (by simpa using h)), (fun _ => rfl), (fun h => g10 (by simpa using h)), hid (by simpa [pts14, d9] using HD.out), (fun h => by simpa using k6 (by simpa using h)), (fun h => by simpa using k7 (by simpa using h)), (fun h => by simpa using k8 (by simpa using h)), (fun _ => by simpa using d9), (fun h => by simpa using k12 (by simpa using h)), (fun h => by simpa using k12b (by simpa using h))⟩
        · have ho : _ = o9 := Option.some.inj ho
          subst ho
          have d10 : G 10 = true := hd ⟨10, .data⟩ (by simp) rfl
          have d8 : G 8 = true := hd ⟨8, .data⟩ (by simp) rfl
          obtain rfl := g10 d10
          obtain rfl := g8 d8
          have n12 := hG
          have HB := HA.out
          unfold pts14 at HB
          rw [if_pos d10, n12] at HB
          have HC := HB.perm14.2
          have e15 := HC.1.2.1
          have c15 : w9.cell? ⟨B15, 0, none⟩ = some (.slice none 0 0) := by rw [cell_at e15]; rfl
          have f15 := free_at e15 0
          have HD := hid (All.back10 (C := [blkC B15 [t8] 40]) (HC.setBlk 0 t8))
          have d5 : G 5 = true := k8 d8
          have HV : ∃ ao c, t8 = .slice ao L.length c := by
            obtain ⟨a1, c1, h1, _⟩ := owns7_form (HA.out.mem (c := entC t8 L) (by simp [pts14, d5, refP])).2.1
            exact ⟨a1, c1, h1⟩
          obtain ⟨a8, c8, e8⟩ := HV
          clear HB HC e15
          have HH := hid (show _ ∧ _ ∧ _ ∧ _ ∧ _ ∧ _ ∧ _ ∧ _ ∧ _ ∧ _ ∧ _ ∧ _ ∧ _ ∧ _ ∧ _ ∧ _ ∧ _ ∧ _ from ⟨g0, g1, g2, g3, g4, g5, g6, g7, g8, g9, g10, HA, k6, k7, k8, k11, k12, k12b⟩)
          clear g0 g1 g2 g3 g4 g5 g6 g7 g8 g9 g10 k6 k7 k8 k11 k12 k12b HA hd
          subst e8
          refine wpOpIn_of rfl rfl ?_
          simp only [List.cons_append, List.nil_append]
          gi_wp2
          obtain ⟨g0, g1, g2, g3, g4, g5, g6, g7, g8, g9, g10, HA, k6, k7, k8, k11, k12, k12b⟩ := HH.out
          exact ⟨_, _, _, _, _, _, _, _, _, _, _, (.slice a8 L.length c8), q, B14, B15, rfl, (fun h => g0 (by simpa using h)), (fun h => g1 (by simpa using h)), (fun h => g2 (by simpa using h)), (fun h => g3 (by simpa using h)), (fun h => g4 (by simpa using h)), (fun h => g5 (by simpa using h)), (fun h => g6 (by simpa using h)), (fun h => g7 (by simpa using h)), (fun _ => rfl), (fun h => g9 (by simpa using h)), (fun _ => rfl), hid (by simpa [pts14, d10] using HD.out), (fun h => by simpa using k6 (by simpa using h)), (fun h => by simpa using k7 (by simpa using h)), (fun h => by simpa using k8 (by simpa using h)), (fun h => by simpa using k11 (by simpa using h)), (fun _ => by simpa using d10), (fun _ => by simpa using d5)⟩
      case hdone =>
        rintro G ac w9 hG ⟨t0, t1, t2, t3, t4, t5, t6, t7, t8, s14, s15, v2, q, B14, B15, rfl, g0, g1, g2, g3, g4, g5, g6, g7, g8, g9, g10, HA, k6, k7, k8, k11, k12, k12b⟩
        obtain rfl := g0 (hG 0 (by decide))
        obtain rfl := g1 (hG 1 (by decide))
        obtain rfl := g2 (hG 2 (by decide))
        obtain rfl := g3 (hG 3 (by decide))
        obtain rfl := g4 (hG 4 (by decide))
        obtain rfl := g5 (hG 5 (by decide))
        obtain rfl := g6 (hG 6 (by decide))
        obtain rfl := g7 (hG 7 (by decide))
        obtain rfl := g8 (hG 8 (by decide))
        obtain rfl := g9 (hG 9 (by decide))
        obtain rfl := g10 (hG 10 (by decide))
        have A9 : Hid (All (refP q n b t8 L ++ (blkC B14 [.int .i64 (b : Int)] 3 :: blkC B15 [t8] 40 :: (logP g' h' b (b + L.length) n ps ++ (refP p' n b v L ++ (blkC (Bb + 1) [.func (.func 40) #[] #[.pointer (some ⟨Bb, 0, none⟩)]] 53 :: blkC Bb [.pointer (some ⟨g', 0, none⟩)] 23 :: R))))) w9) := hid (by
          have h := HA.out
          rw [hG 5 (by decide), hG 9 (by decide), hG 10 (by decide), hG 11 (by decide), hG 12 (by decide)] at h
          simpa [pts14] using h)
        clear g0 g1 g2 g3 g4 g5 g6 g7 g8 g9 g10 HA k6 k7 k8 k11 k12 k12b hG CELL C20 A2
        simp only [List.cons_append, List.nil_append]
        obtain ⟨t9a, t9c, rfl, _⟩ := owns7_form A9.out.tail.1.2.1
        have c13 : w9.cell? ⟨Bb + 1, 0, none⟩ = some (.func (.func 40) #[] #[.pointer (some ⟨Bb, 0, none⟩)]) := by
          have e := A9.out.blk (g := Bb + 1) (vs := [.func (.func 40) #[] #[.pointer (some ⟨Bb, 0, none⟩)]]) (t := 53) (by simp)
          rw [cell_at e]; rfl
        have l13 := World.block_lt_of_cell? _ _ c13
        go_wp2_with fail
        obtain ⟨BI, hBI⟩ : ∃ BI, Hid (BI = w9.heap.size) := ⟨_, hid rfl⟩
        obtain ⟨RR, hRR⟩ : ∃ RR, Hid (RR = blkC B14 [.int .i64 (b : Int)] 3 :: blkC B15 [.slice t9a L.length t9c] 40 :: entC (.slice t9a L.length t9c) L :: blkC (Bb + 1) [.func (.func 40) #[] #[.pointer (some ⟨Bb, 0, none⟩)]] 53 :: blkC Bb [.pointer (some ⟨g', 0, none⟩)] 23 :: R) := ⟨_, hid rfl⟩
        have A10 : Hid (All (prt n ⟨g', h', p', b, v, L, ps⟩ BI 0 RR) (w9.alloc (.cells #[.int .i64 0] 3))) := hid (by
          have h1 := A9.out.tail.addBlk [.int .i64 0] 3
          rw [← hBI.out] at h1
          rw [hRR.out]
          refine h1.perm ?_
          have := perm_by 6 [[blkC BI [.int .i64 0] 3], [entC (.slice t9a L.length t9c) L], [blkC B14 [.int .i64 (b : Int)] 3, blkC B15 [.slice t9a L.length t9c] 40], logP g' h' b (b + L.length) n ps, refP p' n b v L, blkC (Bb + 1) [.func (.func 40) #[] #[.pointer (some ⟨Bb, 0, none⟩)]] 53 :: blkC Bb [.pointer (some ⟨g', 0, none⟩)] 23 :: R] [3, 4, 0, 2, 1, 5] rfl (by decide)
          simpa [List.getD, prt] using this)
        rw [← hBI.out]
        generalize (w9.alloc (.cells #[.int .i64 0] 3)) = w10 at A10 ⊢
        clear A9 c13 l13 hBI
        have BL : Hid (Okay w10.heap.size RR) := hid (fun d hd => .inl (A10.out.lts d (by simp [prt, hd])))
        have I0 : Hid (IO (w10.heap.size + 3) L n g' p' BI RR [] w10) := hid ⟨⟨g', h', p', b, v, L, ps⟩, rfl, rfl, HOK.out, by rw [optH, if_pos rfl, List.nil_append]; exact A10.out⟩
        have RX : Hid (∀ (Y : List Comp) W, All (Y ++ RR) W → W.cell? ⟨B14, 0, none⟩ = some (.int .i64 (b : Int)) ∧ W.cell? ⟨B15, 0, none⟩ = some (.slice t9a L.length t9c) ∧ W.cell? ⟨Bb + 1, 0, none⟩ = some (.func (.func 40) #[] #[.pointer (some ⟨Bb, 0, none⟩)]) ∧ W.cell? ⟨Bb, 0, none⟩ = some (.pointer (some ⟨g', 0, none⟩)) ∧ W.cell? ⟨w1.heap.size, 0, none⟩ = some (.pointer (some ⟨g', 0, none⟩)) ∧ W.cell? ⟨w2.heap.size, 0, none⟩ = some (.pointer (some ⟨p', 0, none⟩)) ∧ W.cell? ⟨w.heap.size, 0, none⟩ = some (.slice ao acts.length cp) ∧ Below w.heap.size w W ∧ W.ownsRow 0 39 7 (.slice t9a L.length t9c) L.length (flatE L)) := hid (fun Y W hA => by
          obtain ⟨a1, a2, a3⟩ := RC.out (Y ++ [blkC B14 [.int .i64 (b : Int)] 3, blkC B15 [.slice t9a L.length t9c] 40, entC (.slice t9a L.length t9c) L, blkC (Bb + 1) [.func (.func 40) #[] #[.pointer (some ⟨Bb, 0, none⟩)]] 53, blkC Bb [.pointer (some ⟨g', 0, none⟩)] 23]) W (by rw [hRR.out] at hA; simpa using hA)
          have e1 := hA.blk (g := B14) (vs := [.int .i64 (b : Int)]) (t := 3) (by rw [hRR.out]; simp)
          have e2 := hA.blk (g := B15) (vs := [.slice t9a L.length t9c]) (t := 40) (by rw [hRR.out]; simp)
          have e3 := hA.blk (g := Bb + 1) (vs := [.func (.func 40) #[] #[.pointer (some ⟨Bb, 0, none⟩)]]) (t := 53) (by rw [hRR.out]; simp)
          have e4 := hA.blk (g := Bb) (vs := [.pointer (some ⟨g', 0, none⟩)]) (t := 23) (by rw [hRR.out]; simp)
          have e5 := hA.blk (g := w.heap.size) (vs := [.slice ao acts.length cp]) (t := 22) (by rw [hRR.out, hR.out, hR0.out]; simp)
          have e6 := (hA.mem (c := entC (.slice t9a L.length t9c) L) (by rw [hRR.out]; simp)).2.1
          exact ⟨by rw [cell_at e1]; rfl, by rw [cell_at e2]; rfl, by rw [cell_at e3]; rfl, by rw [cell_at e4]; rfl, a1, a2, by rw [cell_at e5]; rfl, a3, e6⟩)
        refine (wpIn_wide (n := 20)).1 ?_
        refine range_good (P := Try.prog) (n := 20) (by omega) (gf := 40) (lb := #[.pointer (some ⟨Bb, 0, none⟩)]) rfl (enters_of Try.func40 (by kernel_rfl) rfl)
          (encs := fun x : Nat × Ent => #[.int .i64 (x.1 : Int), x.2.V]) (Kp := KeepH (w10.heap.size + 3)) (Fresh := fun pre x W0 W1 => FreshI (w10.heap.size + 3) b L pre x W0 W1) (S := fun ys => ys = items b L) (Sp := fun ys => ys <+: items b L) (Nm := 64) ?seq
          (fun h k => h.then k) (fun W l o o' h1 h2 => KeepH.put W l o o' h1 h2) (fun _ => rfl)
          (IO (w10.heap.size + 3) L n g' p' BI RR) (fun c pre W => False) (IO2 (w10.heap.size + 3) b L n g' p' BI RR)
          (IO_own BL.out) (fun c s A C row hs hg hr => hs) (fun pre => IO2_own pre BL.out) (fun pre x W0 W1 h => h.below) (fun pre x W0 W1 h hf => IO_fresh h hf)
          I0.out
          (fun x a' W => ∃ Bx, W.heap[Bx]? = some (.cells x.2.cells.toArray 39 (0, 0)) ∧ a' = { tmps := #[Value.int IntKind.i64 ↑n, Value.slice fo fs.length fc, Value.slice ao acts.length cp, undef, undef, Value.pointer (some { block := w.heap.size, off := 0 }), Value.pointer (some { block := w.heap.size + 1, off := 0 }), Value.pointer (some { block := w1.heap.size, off := 0 }), Value.int IntKind.i64 0, Value.pointer (some { block := w2.heap.size, off := 0 }), Value.int IntKind.i64 0, undef, u12, Value.pointer (some { block := Bb + 1, off := 0 }), Value.pointer (some { block := B14, off := 0 }), Value.pointer (some { block := B15, off := 0 }), Value.pointer (some { block := BI, off := 0 }), Value.int IntKind.i64 (x.1 : Int), Value.pointer (some ⟨Bx, 0, none⟩), undef, undef, undef, undef, Value.tuple #[Value.pointer (some { block := g', off := 0 }), Value.int IntKind.i64 0], Value.int IntKind.i64 ↑n, Value.tuple #[Value.pointer (some { block := g', off := 0 }), Value.int IntKind.i64 0], Value.pointer (some { block := g', off := 0 }), Value.int IntKind.i64 0, Value.tuple #[Value.pointer (some { block := p', off := 0 }), Value.int IntKind.i64 0], Value.int IntKind.i64 ↑n, Value.tuple #[Value.pointer (some { block := p', off := 0 }), Value.int IntKind.i64 0], Value.pointer (some { block := p', off := 0 }), Value.int IntKind.i64 0, Value.pointer (some { block := p', off := 0 }), Value.bool false, undef, undef, undef, undef, undef, undef, Value.int IntKind.i64 0, Value.bool false, Value.bool false, Value.pointer (some { block := g', off := 0 }), Value.bool false, Value.bool false, Value.slice fo fs.length fc, Value.int IntKind.i64 ↑fs.length, Value.int IntKind.i64 ↑i, Value.bool false, u51, u52, u53, u54, u55, u56, u57, u58, u59, u60, Value.pointer (some { block := g', off := 0 }), Value.func (Fn.func 40) #[] #[Value.pointer (some { block := Bb, off := 0 })], Value.pointer (some { block := p', off := 0 }), Value.pointer (some { block := p', off := 0 }), Value.pointer (some { block := p', off := 1 }), Value.int IntKind.i64 ↑b, Value.pointer (some { block := p', off := 0 }), Value.pointer (some { block := q, off := 0 }), Value.pointer (some { block := q, off := 0 }), Value.pointer (some { block := q, off := 2 }), Value.slice t9a L.length t9c, Value.func (Fn.func 40) #[] #[Value.pointer (some { block := Bb, off := 0 })], Value.int IntKind.i64 (x.1 : Int), x.2.V, undef, undef, undef, undef, undef, undef, undef, undef, undef, undef, undef, undef, undef, undef, undef, undef, undef, undef, undef, undef, undef, undef, undef, undef, undef, undef, undef, undef, undef, undef, undef, undef, undef, undef, undef, undef, undef, undef, undef, undef, undef, undef, undef, undef, undef, undef, undef, undef, undef, undef, undef, undef, undef, undef, undef, undef, undef, undef, undef, undef, undef, undef, undef, undef, undef, undef, undef, undef, undef, undef, undef, undef, undef, undef, undef, undef, undef, undef, undef, undef, undef, undef, undef, undef, undef, undef, undef, undef, undef, undef, undef, undef, undef, undef, undef, undef, undef, undef, undef, undef, undef, undef, undef, undef, undef, undef, undef, undef, undef, undef, undef, undef, undef, undef, undef], defers := [] })
          (fun a' x A C row hs hg hr => by
            obtain ⟨Bx, h1, h2⟩ := hs
            refine ⟨Bx, (hg.block Bx (Array.getElem?_eq_some_iff.1 h1).1 (fun e => ?_)).trans h1, h2⟩
            obtain ⟨_, o, ho, hoc⟩ := hr Bx e.symm
            rw [h1] at ho; cases ho; cases hoc)
          ?assign ?body ?done ?stop
        case seq =>
          intro l J Jx W hbW hWs hJ hY h0
          have hA1 := A10.out.later hbW
          obtain ⟨_, _, _, eBb, _⟩ := RX.out (logP g' h' b (b + L.length) n ps ++ (refP p' n b v L ++ [blkC BI [.int .i64 (0 : Nat)] 3])) W (by simpa [prt] using hA1)
          have eg : HeadAt W g' b (b + L.length) h' n := hA1.head
          have eh : W.heap[h']? = some (.cells (flatE ps).toArray 39 (0, 0)) := hA1.tail.1.2.1
          have e3 : W.heap.size + 1 = w10.heap.size + 3 := by omega
          exact all40 (l := l) (m := 18) (Bb := Bb) (W := W) J Jx (KeepH (w10.heap.size + 3)) (fun A B cs h k => by rw [e3] at h ⊢; exact k cs h) eBb eg eh HOK.out hJ (fun pre x W0 W1 h1 h2 h3 => hY pre x W0 W1 h1 (by rw [e3] at h2; exact h2) h3) h0
        case assign =>
          rintro l pre x W K ⟨hp, t, q1, q2, q3, hA⟩ hK
          have HA := hid hA
          have HK := hid hK
          clear hA hK
          dsimp only
          gi_wp2
          refine HK.out _ _ ⟨by simp, fun k o _ hk _ => (Below.heap_alloc _ _ _ (Array.getElem?_eq_some_iff.1 hk).1).trans hk⟩ (KeepH.of HA.out.1.2.1 ((HA.out.alloc _).1.2.1)) ⟨hp, t, q1, q2, q3, HA.out.alloc _⟩ ⟨W.heap.size, heap_alloc_new W _, rfl⟩
        case stop =>
          rintro D c ys W hD hS hI hK
          exact hI.elim
        case done =>
          rintro D ys W hD hS ⟨t, q1, q2, q3, hA⟩ hK
          have hA2 : All ((optH (w10.heap.size + 3) L ys ++ (logP t.g t.h t.b (t.b + t.L.length) n t.ps ++ (refP t.p n t.b t.v t.L ++ [blkC BI [.int .i64 (ys.length : Int)] 3]))) ++ RR) W := by simpa [prt] using hA
          obtain ⟨_, c15, _⟩ := RX.out _ _ hA2
          have cI : W.cell? ⟨BI, 0, none⟩ = some (.int .i64 (ys.length : Int)) := by
            have e := hA2.blk (g := BI) (vs := [.int .i64 (ys.length : Int)]) (t := 3) (by simp)
            rw [cell_at e]; rfl
          have hyl : ys.length = L.length := by rw [hS, items_len]
          rw [hyl] at cI
          have hA3 : All [blkC (w.heap.size + 1) [.bool false] 4, inC w] W := hA2.sublist (by
            rw [hRR.out, hR.out, hR0.out]
            refine List.Sublist.trans ?_ (List.sublist_append_right _ _)
            exact .cons _ (.cons _ (.cons _ (.cons _ (.cons _ (.cons _ (.cons _ (.cons_cons _ (.cons _ (.refl _))))))))))
          have hl6 := A10.out.lts (blkC (w.heap.size + 1) [.bool false] 4) (by rw [hRR.out, hR.out, hR0.out]; simp [prt]) (w.heap.size + 1) (by simp [blkC])
          obtain ⟨r0, f0, FIN⟩ := finR hA3 (by omega) hl6 hD hK
          have dd : ((L.length : Int) == (L.length : Int)) = true := by simp
          clear hA hA2 hA3 hK hS I0
          go_wp2
          refine ⟨by simp, .inl ⟨_, _, rfl, run_takeDeferred FIN.out.1, ?_⟩⟩
          exact ⟨_, res4 rfl FIN.out.2.1, rfl, FIN.out.2.2⟩
        case body =>
          rintro l pre x a' W hl ⟨r, hr⟩ ⟨hp, ⟨g2, h2, p2, b2, v2, L2, ps2⟩, q1, q2, hok2, hA⟩ ⟨Bx, hBx, rfl⟩ hlt
          simp only at q1 q2
          subst q1 q2
          obtain ⟨hx1, hkL⟩ := items_next hp
          have hxe : L[pre.length]? = some x.2 := by
            obtain ⟨tl, htl⟩ := hp
            have e1 : (items b L)[pre.length]? = some x := by rw [← htl]; simp
            have e2 := items_at b L pre.length _ (List.getElem?_eq_getElem hkL)
            rw [e1] at e2
            rw [List.getElem?_eq_getElem hkL]
            have e3 := congrArg Prod.snd (Option.some.inj e2)
            exact congrArg some e3.symm
          obtain ⟨F, hF⟩ : ∃ F, Hid (F = fps (blkC (w10.heap.size + 3) (flatE L) 39 :: prt n ⟨g2, h2, p2, b2, v2, L2, ps2⟩ BI pre.length RR)) := ⟨_, hid rfl⟩
          have KEEP : Hid (∀ W3, Fr F W W3 → KeepsFrom w10.heap.size W W3) := hid (fun W3 h3 => keeps_old hA (.cons (blkC_cellsy _ _ _) (okay_prt BL.out)) (by rw [← hF.out]; exact h3))
          obtain ⟨RO, hRO⟩ : ∃ RO, Hid (RO = RR ++ [oldC W F]) := ⟨_, hid rfl⟩
          have A1 : Hid (All (blkC (w10.heap.size + 3) (flatE L) 39 :: prt n ⟨g2, h2, p2, b2, v2, L2, ps2⟩ BI pre.length RO) W) := hid (by
            have h := hA.guarded
            rw [← hF.out] at h
            rw [hRO.out]
            simpa [prt] using h)
          have RY : Hid (∀ (Y : List Comp) W, All (Y ++ RO) W → W.cell? ⟨B14, 0, none⟩ = some (.int .i64 (b : Int)) ∧ W.cell? ⟨B15, 0, none⟩ = some (.slice t9a L.length t9c) ∧ W.cell? ⟨Bb + 1, 0, none⟩ = some (.func (.func 40) #[] #[.pointer (some ⟨Bb, 0, none⟩)]) ∧ W.cell? ⟨Bb, 0, none⟩ = some (.pointer (some ⟨g2, 0, none⟩)) ∧ W.cell? ⟨w1.heap.size, 0, none⟩ = some (.pointer (some ⟨g2, 0, none⟩)) ∧ W.cell? ⟨w2.heap.size, 0, none⟩ = some (.pointer (some ⟨p2, 0, none⟩)) ∧ W.cell? ⟨w.heap.size, 0, none⟩ = some (.slice ao acts.length cp) ∧ Below w.heap.size w W ∧ W.ownsRow 0 39 7 (.slice t9a L.length t9c) L.length (flatE L)) := hid (fun Y W hA => RX.out Y W (hA.sublist (List.Sublist.append (.refl _) (by rw [hRO.out]; exact List.sublist_append_left _ _))))
          obtain ⟨k, hk⟩ : ∃ k, Hid (k = pre.length) := ⟨_, hid rfl⟩
          have HP := hid hp
          rw [← hk.out] at hx1 hkL hxe A1 hlt
          have hA2 : All ((blkC (w10.heap.size + 3) (flatE L) 39 :: (logP g2 h2 b2 (b2 + L2.length) n ps2 ++ (refP p2 n b2 v2 L2 ++ [blkC BI [.int .i64 (k : Int)] 3]))) ++ RO) W := by simpa [prt] using A1.out
          obtain ⟨c14, c15, c13, cBb, c7, c9, c5, hbw, hwant⟩ := RY.out _ _ hA2
          have cI : W.cell? ⟨BI, 0, none⟩ = some (.int .i64 (k : Int)) := by
            have e := hA2.blk (g := BI) (vs := [.int .i64 (k : Int)]) (t := 3) (by simp)
            rw [cell_at e]; rfl
          obtain ⟨gw, hgw, lgw, hrw⟩ := owns7 hwant hxe
          obtain ⟨z1, z2, z3, z4, z5, z6, z7⟩ := entAt_of hrw
          obtain ⟨y1, y2, y3, y4, y5, y6, y7⟩ := entAt_of (range_one hBx)
          simp only [Nat.zero_add] at y1 y2 y3 y4 y5 y6 y7
          have lBx : Bx < W.heap.size := (Array.getElem?_eq_some_iff.1 hBx).1
          have EQ := fun w => eq39 x.2 x.2 w
          simp only [decide_true] at EQ
          unfold Ent.V at EQ
          have htp : b + L.length ≤ 1099511627776 := HOK.out.top
          have wb1 : IntKind.i64.wrap ((b : Int) + 1) = (b : Int) + 1 := by rw [IntKind.wrap_i64]; omega
          have wb2 : IntKind.i64.wrap ((b : Int) + 1 + (k : Int)) = (b : Int) + 1 + (k : Int) := by rw [IntKind.wrap_i64]; omega
          have dk1 : ¬ (L.length : Int) ≤ (k : Int) := by omega
          have dk2 : decide ((L.length : Int) ≤ (k : Int)) = false := decide_eq_false dk1
          have dk3 : decide (L.length ≤ k) = false := decide_eq_false (by omega)
          have dk4 : k < L.length := hkL
          have dk5 : (k : Int) < (L.length : Int) := by omega
          have dx1 : (x.1 : Int) = (b : Int) + 1 + (k : Int) := by rw [hx1]; omega
          have hok2 := hid hok2
          subst hgw
          clear hA hA2 hwant hrw hBx hp hxe hx1 htp
          dsimp only
          gi_wp2
          refine quiet_round rfl (by kernel_rfl) (by kernel_rfl) (by kernel_rfl) ?_
          repeat (first | gi_big_quiet_step (fail) | quiet_step_in (fail))
          refine wpQuietIn_nil ?_
          intro _ hw'
          obtain ⟨nq, hw''⟩ := hw'
          subst hw''
          have ENDB : Hid (∀ (t' : Tw) W3, t'.g = g2 → t'.p = p2 → t'.ok n → All (blkC (w10.heap.size + 3) (flatE L) 39 :: prt n t' BI (k + 1) RO) W3 → KeepsFrom w10.heap.size W W3 ∧ KeepH (w10.heap.size + 3) W W3 ∧ IO (w10.heap.size + 3) L n g2 p2 BI RR (pre ++ [x]) W3) := hid (fun t' W3 e1 e2 e3 hA3 => by
            refine ⟨KEEP.out W3 (hA3.oldAt (by rw [hRO.out]; simp [prt])), KeepH.of A1.out.1.2.1 hA3.1.2.1, t', e1, e2, e3, ?_⟩
            rw [optH, if_neg (by simp), List.length_append, List.length_singleton, ← hk.out]
            refine hA3.sublist (.cons_cons _ ?_)
            rw [hRO.out]
            exact prt_sub (List.sublist_append_left _ _))
          clear y1 y2 y3 y4 y5 y6 y7 z1 z2 z3 z4 z5 z6 z7 EQ dk1 dk2 dk3 dk4 dk5 wb1 wb2 c14 c15 dx1
          have A1d := hid (A1.out.drewN nq)
          generalize W.drewN nq = Wd at A1d ⊢
          have hA2d : All ((blkC (w10.heap.size + 3) (flatE L) 39 :: (logP g2 h2 b2 (b2 + L2.length) n ps2 ++ (refP p2 n b2 v2 L2 ++ [blkC BI [.int .i64 (k : Int)] 3]))) ++ RO) Wd := by simpa [prt] using A1d.out
          clear c7 c9 c13 cBb c5 cI hbw
          obtain ⟨_, _, c13, cBb, c7, c9, c5, hbw, _⟩ := RY.out _ _ hA2d
          have cI : Wd.cell? ⟨BI, 0, none⟩ = some (.int .i64 (k : Int)) := by
            have e := hA2d.blk (g := BI) (vs := [.int .i64 (k : Int)]) (t := 3) (by simp)
            rw [cell_at e]; rfl
          clear hA2d
          gi_upto_if 98 with fail
          gi_cut [] from 75 (fun wc => ∃ (t' : Tw) (wy : World), wy = wc ∧ t'.g = g2 ∧ t'.p = p2 ∧ t'.ok n ∧ Hid (All (blkC (w10.heap.size + 3) (flatE L) 39 :: prt n t' BI k RO) wy))
          case rest =>
            obtain ⟨t', wy, rfl, e1, e2, e3, A3⟩ := hcut
            have hA3 : All ((blkC (w10.heap.size + 3) (flatE L) 39 :: (logP t'.g t'.h t'.b (t'.b + t'.L.length) n t'.ps ++ (refP t'.p n t'.b t'.v t'.L ++ [blkC BI [.int .i64 (k : Int)] 3]))) ++ RO) wy := by simpa [prt] using A3.out
            have eI := hA3.blk (g := BI) (vs := [.int .i64 (k : Int)]) (t := 3) (by simp)
            have cI : wy.cell? ⟨BI, 0, none⟩ = some (.int .i64 (k : Int)) := by rw [cell_at eI]; rfl
            have fI := free_at eI 0
            have wk1 : IntKind.i64.wrap ((k : Int) + 1) = (k : Int) + 1 := by rw [IntKind.wrap_i64]; omega
            have FIN := hid (ENDB.out t' _ e1 e2 e3 (prt_step A3.out))
            clear hA3 eI A1
            gi_wp2
            exact FIN.out
          case first =>
            by_cases hka : k < acts.length
            · have l1 : decide ((k : Int) < (acts.length : Int)) = true := decide_eq_true (by omega)
              have l2 : (k : Int) < (acts.length : Int) := by omega
              obtain ⟨y, hy⟩ : ∃ y, Hid (acts[k]? = some y) := ⟨_, hid (List.getElem?_eq_getElem hka)⟩
              have HBW := hid hbw
              have HG := hid (acts_good HS.out hy.out)
              obtain ⟨ga, oa, rfl, hga, y0, y1, y2, y3, y4, y5, y6, y7, y8, y9, y10, y11⟩ := acts_cells HS.out HBW.out hy.out
              obtain ⟨sa, sc, es, _⟩ := HG.out.rd
              have HES := hid es
              rw [es] at y11
              have hgK : ga ≠ Wd.heap.size := by have := hbw.size; omega
              obtain ⟨K, hK⟩ : ∃ K, Hid (K = Wd.heap.size) := ⟨_, hid rfl⟩
              have A4 : Hid (All (logP g2 h2 b2 (b2 + L2.length) n ps2 ++ (refP p2 n b2 v2 L2 ++ (blkC (w10.heap.size + 3) (flatE L) 39 :: blkC BI [.int .i64 (k : Int)] 3 :: blkC K [.int .i64 y.kd, .int .i64 y.lg, .int .i64 y.op, .int .i64 y.ms, .int .i64 y.e.c, .int .i64 y.e.n, .int .i64 y.e.k, .string y.e.nm, .string y.e.tx, .int .i64 y.e.m, .int .i64 y.e.q, .slice sa y.l.length sc] 42 :: RO))) (Wd.alloc (.cells #[.int .i64 y.kd, .int .i64 y.lg, .int .i64 y.op, .int .i64 y.ms, .int .i64 y.e.c, .int .i64 y.e.n, .int .i64 y.e.k, .string y.e.nm, .string y.e.tx, .int .i64 y.e.m, .int .i64 y.e.q, .slice sa y.l.length sc] 42))) := hid (by
                have ea := A1d.out.addBlk [.int .i64 y.kd, .int .i64 y.lg, .int .i64 y.op, .int .i64 y.ms, .int .i64 y.e.c, .int .i64 y.e.n, .int .i64 y.e.k, .string y.e.nm, .string y.e.tx, .int .i64 y.e.m, .int .i64 y.e.q, .slice sa y.l.length sc] 42
                have eb : All (blkC K [.int .i64 y.kd, .int .i64 y.lg, .int .i64 y.op, .int .i64 y.ms, .int .i64 y.e.c, .int .i64 y.e.n, .int .i64 y.e.k, .string y.e.nm, .string y.e.tx, .int .i64 y.e.m, .int .i64 y.e.q, .slice sa y.l.length sc] 42 :: blkC (w10.heap.size + 3) (flatE L) 39 :: prt n ⟨g2, h2, p2, b2, v2, L2, ps2⟩ BI k RO) (Wd.alloc (.cells #[.int .i64 y.kd, .int .i64 y.lg, .int .i64 y.op, .int .i64 y.ms, .int .i64 y.e.c, .int .i64 y.e.n, .int .i64 y.e.k, .string y.e.nm, .string y.e.tx, .int .i64 y.e.m, .int .i64 y.e.q, .slice sa y.l.length sc] 42)) := by rw [hK.out]; exact ea
                refine (prt_out (c := blkC (w10.heap.size + 3) (flatE L) 39) (RK := blkC K [.int .i64 y.kd, .int .i64 y.lg, .int .i64 y.op, .int .i64 y.ms, .int .i64 y.e.c, .int .i64 y.e.n, .int .i64 y.e.k, .string y.e.nm, .string y.e.tx, .int .i64 y.e.m, .int .i64 y.e.q, .slice sa y.l.length sc] 42 :: RO) (t := ⟨g2, h2, p2, b2, v2, L2, ps2⟩) ?_)
                refine eb.perm ?_
                have := perm_by 6 [[blkC K [.int .i64 y.kd, .int .i64 y.lg, .int .i64 y.op, .int .i64 y.ms, .int .i64 y.e.c, .int .i64 y.e.n, .int .i64 y.e.k, .string y.e.nm, .string y.e.tx, .int .i64 y.e.m, .int .i64 y.e.q, .slice sa y.l.length sc] 42], [blkC (w10.heap.size + 3) (flatE L) 39], logP g2 h2 b2 (b2 + L2.length) n ps2, refP p2 n b2 v2 L2, [blkC BI [.int .i64 (k : Int)] 3], RO] [1, 2, 3, 4, 0, 5] rfl (by decide)
                simpa [List.getD, prt] using this)
              have CZ : Hid (∀ (Y : List Comp) W, All (Y ++ (blkC (w10.heap.size + 3) (flatE L) 39 :: blkC BI [.int .i64 (k : Int)] 3 :: blkC K [.int .i64 y.kd, .int .i64 y.lg, .int .i64 y.op, .int .i64 y.ms, .int .i64 y.e.c, .int .i64 y.e.n, .int .i64 y.e.k, .string y.e.nm, .string y.e.tx, .int .i64 y.e.m, .int .i64 y.e.q, .slice sa y.l.length sc] 42 :: RO)) W → W.cell? ⟨w1.heap.size, 0, none⟩ = some (.pointer (some ⟨g2, 0, none⟩)) ∧ W.cell? ⟨w2.heap.size, 0, none⟩ = some (.pointer (some ⟨p2, 0, none⟩)) ∧ (W.cell? ⟨K, 0, none⟩ = some (.int .i64 y.kd) ∧ W.cell? ⟨K, 2, none⟩ = some (.int .i64 y.op) ∧ W.cell? ⟨K, 4, none⟩ = some (.int .i64 y.e.c) ∧ W.cell? ⟨K, 5, none⟩ = some (.int .i64 y.e.n) ∧ W.cell? ⟨K, 6, none⟩ = some (.int .i64 y.e.k) ∧ W.cell? ⟨K, 7, none⟩ = some (.string y.e.nm) ∧ W.cell? ⟨K, 8, none⟩ = some (.string y.e.tx) ∧ W.cell? ⟨K, 9, none⟩ = some (.int .i64 y.e.m) ∧ W.cell? ⟨K, 10, none⟩ = some (.int .i64 y.e.q) ∧ W.cell? ⟨K, 11, none⟩ = some (.slice sa y.l.length sc)) ∧ Below w.heap.size w W ∧ W.cell? ⟨Bb + 1, 0, none⟩ = some (.func (.func 40) #[] #[.pointer (some ⟨Bb, 0, none⟩)]) ∧ W.cell? ⟨Bb, 0, none⟩ = some (.pointer (some ⟨g2, 0, none⟩))) := hid (fun Y W hA => by
                obtain ⟨_, _, a3, a4, a5, a6, _, a8, _⟩ := RY.out (Y ++ [blkC (w10.heap.size + 3) (flatE L) 39, blkC BI [.int .i64 (k : Int)] 3, blkC K [.int .i64 y.kd, .int .i64 y.lg, .int .i64 y.op, .int .i64 y.ms, .int .i64 y.e.c, .int .i64 y.e.n, .int .i64 y.e.k, .string y.e.nm, .string y.e.tx, .int .i64 y.e.m, .int .i64 y.e.q, .slice sa y.l.length sc] 42]) W (by simpa using hA)
                have e : W.heap[K]? = some (.cells [.int .i64 y.kd, .int .i64 y.lg, .int .i64 y.op, .int .i64 y.ms, .int .i64 y.e.c, .int .i64 y.e.n, .int .i64 y.e.k, .string y.e.nm, .string y.e.tx, .int .i64 y.e.m, .int .i64 y.e.q, .slice sa y.l.length sc].toArray 42 (0, 0)) := hA.blk (by simp)
                refine ⟨a5, a6, ⟨?_, ?_, ?_, ?_, ?_, ?_, ?_, ?_, ?_, ?_⟩, a8, a3, a4⟩ <;> (rw [cell_at e]; rfl))
              obtain ⟨mi, hmi, C8⟩ : ∃ mi : Int, (mi = 0 ∨ mi = 1 ∨ mi = 2) ∧ Hid (∀ W : World, Calls Try.prog 8 #[.int .i64 y.kd, .int .i64 3] W fun e w' => e = .returned (.int .i64 mi) ∧ Below W.heap.size W w') := by
                have hm3 := amN_lt y.kd (n := 3) (by decide)
                refine ⟨(amN y.kd 3 : Nat), by omega, hid (fun W => ?_)⟩
                refine (among_is y.kd 3 (by decide) (by decide)).mono ?_
                rintro e w' ⟨rfl, rfl⟩
                exact ⟨rfl, Below.refl _ _⟩
              clear c7 c9 cBb c13
              gi_wp2
              refine ⟨trivial, (CallsIn.inRound l (callsIn_wide.2 (C8.out _))).mono ?_⟩
              rintro e w5 ⟨rfl, hb5⟩
              rw [← hK.out]
              have A5 := hid (A4.out.later hb5)
              clear C8 A4 hb5 cI c5 y0 y1 y2 y3 y4 y5 y6 y7 y8 y9 y10 y11
              obtain ⟨c7, c9, ⟨k0, k2, k4, k5, k6, k7, k8, k9, k10, k11⟩, _⟩ := CZ.out (logP g2 h2 b2 (b2 + L2.length) n ps2 ++ refP p2 n b2 v2 L2) _ (by simpa using A5.out)
              rcases hmi with rfl | rfl | rfl
              · skip
                obtain ⟨qa, b', L', D1, D2⟩ := add_two (g := g2) (h := h2) (p := p2) hok2.out y.e
                have C1 := hid (D1 _ _ A5.out.drew)
                have D2 := hid D2
                clear D1
                gi_wp2
                refine held_roundN (fun W => W.cell? ⟨w1.heap.size, 0, none⟩ = some (.pointer (some ⟨g2, 0, none⟩)) ∧ W.cell? ⟨w2.heap.size, 0, none⟩ = some (.pointer (some ⟨p2, 0, none⟩)) ∧ W.cell? ⟨K, 4, none⟩ = some (.int .i64 y.e.c) ∧ W.cell? ⟨K, 5, none⟩ = some (.int .i64 y.e.n) ∧ W.cell? ⟨K, 6, none⟩ = some (.int .i64 y.e.k) ∧ W.cell? ⟨K, 7, none⟩ = some (.string y.e.nm) ∧ W.cell? ⟨K, 8, none⟩ = some (.string y.e.tx) ∧ W.cell? ⟨K, 9, none⟩ = some (.int .i64 y.e.m) ∧ W.cell? ⟨K, 10, none⟩ = some (.int .i64 y.e.q)) (by kernel_rfl) (by kernel_rfl) ?_
                refine wpAnyH_take (i := 0) (v := ?_) rfl (by kernel_rfl) (by kernel_rfl) (by kernel_rfl) (fun _ _ _ h => h) (Or.inl ⟨by rfl, by intro w hSw; (try dsimp only at hSw); go_simp; first | done | with_reducible rfl⟩) ⟨c7, c9, k4, k5, k6, k7, k8, k9, k10⟩ ?_
                try simp only [Act.put, List.setIfInBounds_toArray]
                refine wpAnyH_take (i := 1) (v := ?_) rfl (by kernel_rfl) (by kernel_rfl) (by kernel_rfl) (fun _ _ _ h => h) (Or.inl ⟨by rfl, by intro w hSw; (try dsimp only at hSw); go_simp; first | done | with_reducible rfl⟩) ⟨c7, c9, k4, k5, k6, k7, k8, k9, k10⟩ ?_
                try simp only [Act.put]
                refine wpAnyH_take (i := 2) (v := ?_) rfl (by kernel_rfl) (by kernel_rfl) (by kernel_rfl) (fun _ _ _ h => h) (Or.inl ⟨by rfl, by intro w hSw; (try dsimp only at hSw); go_simp; first | done | with_reducible rfl⟩) ⟨c7, c9, k4, k5, k6, k7, k8, k9, k10⟩ ?_
                try simp only [Act.put]
                refine wpAnyH_take (i := 4) (v := ?_) rfl (by kernel_rfl) (by kernel_rfl) (by kernel_rfl) (fun _ _ _ h => h) (Or.inl ⟨by rfl, by intro w hSw; (try dsimp only at hSw); go_simp; first | done | with_reducible rfl⟩) ⟨c7, c9, k4, k5, k6, k7, k8, k9, k10⟩ ?_
                try simp only [Act.put]
                refine wpAnyH_take (i := 5) (v := ?_) rfl (by kernel_rfl) (by kernel_rfl) (by kernel_rfl) (fun _ _ _ h => h) (Or.inl ⟨by rfl, by intro w hSw; (try dsimp only at hSw); go_simp; first | done | with_reducible rfl⟩) ⟨c7, c9, k4, k5, k6, k7, k8, k9, k10⟩ ?_
                try simp only [Act.put]
                refine wpAnyH_take (i := 6) (v := ?_) rfl (by kernel_rfl) (by kernel_rfl) (by kernel_rfl) (fun _ _ _ h => h) (Or.inl ⟨by rfl, by intro w hSw; (try dsimp only at hSw); go_simp; first | done | with_reducible rfl⟩) ⟨c7, c9, k4, k5, k6, k7, k8, k9, k10⟩ ?_
                try simp only [Act.put]
                refine wpAnyH_ready (rs := [3]) (by kernel_rfl) (by simp) ?_
                refine AllReadyH.cons rfl (fun K1 hK1 => ?_) AllReadyH.nil
                go_simp
                refine C1.out.mono ?_
                rintro e w6 ⟨rfl, h', ps', hk', A6⟩
                have A6 := hid A6
                clear c7 c9 k0 k2 k4 k5 k6 k7 k8 k9 k10 k11
                obtain ⟨c7, c9, ⟨k0, k2, k4, k5, k6, k7, k8, k9, k10, k11⟩, hb6, _⟩ := CZ.out (logP g2 h' b' (b' + L'.length) n ps' ++ refP p2 n b2 v2 L2) _ (by simpa using A6.out)
                refine hK1.out _ _ ⟨c7, c9, k4, k5, k6, k7, k8, k9, k10⟩ (fun _ => ?_)
                clear hK1 K1
                try simp only [Act.put, List.setIfInBounds_toArray, List.set_cons_zero, List.set_cons_succ]
                have C2 := hid (D2.out _ _ _ A6.out.flip)
                refine wpAnyH_ready (rs := [7]) (by kernel_rfl) (by simp) ?_
                refine AllReadyH.cons rfl (fun K1 hK1 => ?_) AllReadyH.nil
                go_simp
                refine C2.out.mono ?_
                rintro e w7 ⟨rfl, v', A7⟩
                have A7 := hid A7.flip
                clear c7 c9 k0 k2 k4 k5 k6 k7 k8 k9 k10 k11
                obtain ⟨c7, c9, ⟨k0, k2, k4, k5, k6, k7, k8, k9, k10, k11⟩, _, c13, cBb⟩ := CZ.out (logP g2 h' b' (b' + L'.length) n ps' ++ refP p2 n b' v' L') _ (by simpa using A7.out)
                refine hK1.out _ _ ⟨c7, c9, k4, k5, k6, k7, k8, k9, k10⟩ (fun _ => ?_)
                clear hK1 K1
                try simp only [Act.put, List.setIfInBounds_toArray, List.set_cons_zero, List.set_cons_succ]
                refine wpAnyH_take (i := 8) (v := ?_) rfl (by kernel_rfl) (by kernel_rfl) (by kernel_rfl) (fun _ _ _ h => h) (Or.inl ⟨by rfl, by intro w hSw; (try dsimp only at hSw); go_simp; first | done | with_reducible rfl⟩) ⟨c7, c9, k4, k5, k6, k7, k8, k9, k10⟩ ?_
                try simp only [Act.put, List.setIfInBounds_toArray]
                refine wpAnyH_done (by kernel_rfl) ?_ _
                simp only [onlyN]
                clear C1 C2 A6 A5 D2 k0 k2 k4 k5 k6 k7 k8 k9 k10 k11
                obtain ⟨BASE, hBASE⟩ : ∃ BASE, Hid (BASE = logP g2 h' b' (b' + L'.length) n ps' ++ (refP p2 n b' v' L' ++ (blkC (w10.heap.size + 3) (flatE L) 39 :: blkC BI [.int .i64 (k : Int)] 3 :: blkC K [.int .i64 y.kd, .int .i64 y.lg, .int .i64 y.op, .int .i64 y.ms, .int .i64 y.e.c, .int .i64 y.e.n, .int .i64 y.e.k, .string y.e.nm, .string y.e.tx, .int .i64 y.e.m, .int .i64 y.e.q, .slice sa y.l.length sc] 42 :: RO))) := ⟨_, hid rfl⟩
                have hk3 := hid hk'
                have A7 : Hid (All BASE w7) := hid (by rw [hBASE.out]; exact A7.out)
                clear c7 c9 c13 cBb hk'
                gi_upto_region 33 with fail
                simp only [List.getElem_toArray, List.getElem_cons_zero, List.getElem_cons_succ, List.set_cons_zero, List.set_cons_succ]
                gi_cut [20] from 75 (fun v20 wc => ∃ BK wy, wy = wc ∧ v20 = .pointer (some ⟨BK, 0, none⟩) ∧ Hid (All (blkC BK [.int .i64 0] 3 :: BASE) wy))
                case first =>
                  gi_wp2_with fail
                  gi_meet
                  case rel => exact ⟨_, _, rfl, rfl, hid (A7.out.addBlk [.int .i64 0] 3)⟩
                case rest =>
                obtain ⟨BK, wy, rfl, rfl, A8⟩ := hcut
                clear A7
                have BX : Hid (∀ (Y : List Comp) W1, All (Y ++ BASE) W1 → W1.cell? ⟨w2.heap.size, 0, none⟩ = some (.pointer (some ⟨p2, 0, none⟩)) ∧ W1.cell? ⟨Bb + 1, 0, none⟩ = some (.func (.func 40) #[] #[.pointer (some ⟨Bb, 0, none⟩)]) ∧ W1.cell? ⟨Bb, 0, none⟩ = some (.pointer (some ⟨g2, 0, none⟩)) ∧ W1.cell? ⟨p2, 1, none⟩ = some (.int .i64 (b' : Int)) ∧ W1.cell? ⟨p2, 2, none⟩ = some v' ∧ W1.ownsRow 0 39 7 v' L'.length (flatE L') ∧ HeadAt W1 g2 b' (b' + L'.length) h' n ∧ W1.heap[h']? = some (.cells (flatE ps').toArray 39 (0, 0)) ∧ Fr F W W1) := hid (fun Y W1 hA => by
                  rw [hBASE.out] at hA
                  obtain ⟨_, a2, _, _, a5, a6⟩ := CZ.out (Y ++ (logP g2 h' b' (b' + L'.length) n ps' ++ refP p2 n b' v' L')) W1 (by simpa using hA)
                  have e1 := hA.blk (g := p2) (vs := [.int .i64 (n : Int), .int .i64 (b' : Int), v']) (t := 47) (by simp [refP])
                  have e2 := (hA.mem (c := entC v' L') (by simp [refP])).2.1
                  have e3 := hA.blk (g := g2) (vs := headV b' (b' + L'.length) h' n) (t := 65) (by simp [logP])
                  have e4 := hA.blk (g := h') (vs := flatE ps') (t := 39) (by simp [logP])
                  exact ⟨a2, a5, a6, by rw [cell_at e1]; rfl, by rw [cell_at e1]; rfl, e2, e3, e4, hA.oldAt (by rw [hRO.out]; simp)⟩)
                obtain ⟨_, c13, cBb, _, _, hrv, _, _, hFr⟩ := BX.out [blkC BK [.int .i64 0] 3] _ A8.out
                obtain ⟨va, vc, rfl, hvc⟩ := owns7_form hrv
                have BL2 : Hid (Okay wy.heap.size BASE) := hid (fun d hd => .inl (A8.out.lts d (by simp [hd])))
                have I1 : Hid (IJ (wy.heap.size + 2) L' BK BASE [] wy) := hid (by unfold IJ; rw [optH, if_pos rfl, List.nil_append]; exact A8.out)
                have HL10 : wy.heap[l]? = some (.loop r) := (KEEP.out wy hFr).same l _ hl hr rfl
                obtain ⟨xo, hxo⟩ : ∃ xo, Hid (xo = x) := ⟨_, hid rfl⟩
                clear hrv hFr
                gi_wp2
                rw [← hxo.out]
                refine range_goodN (P := Try.prog) (n := 18) (l₀ := l) (r₀ := r) HL10 (by omega) (gf := 40) (lb := #[.pointer (some ⟨Bb, 0, none⟩)]) rfl (enters_of Try.func40 (by kernel_rfl) rfl)
                  (encs := fun x : Nat × Ent => #[.int .i64 (x.1 : Int), x.2.V]) (Kp := KeepH (wy.heap.size + 2)) (Fresh := fun pre x W0 W1 => FreshI (wy.heap.size + 2) b' L' pre x W0 W1) (S := fun ys => ys = items b' L') (Sp := fun ys => ys <+: items b' L') (Nm := 64) ?iseq
                  (fun h k => h.then k) (fun W l o o' h1 h2 => KeepH.put W l o o' h1 h2) (fun _ => rfl)
                  (IJ (wy.heap.size + 2) L' BK BASE) (fun c pre W => False) (IJ2 (wy.heap.size + 2) b' L' BK BASE)
                  (IJ_own BL2.out) (fun c s A C row hs hg hr => hs) (fun pre => IJ2_own pre BL2.out) (fun pre x W0 W1 h => h.below) (fun pre x W0 W1 h hf => IJ_fresh h hf)
                  I1.out
                  (fun x a' W => ∃ By, W.heap[By]? = some (.cells x.2.cells.toArray 39 (0, 0)) ∧ a' = { tmps := #[Value.int IntKind.i64 ↑n, Value.slice fo fs.length fc, Value.slice (some { block := ga, off := oa }) acts.length cp, undef, undef, Value.pointer (some { block := w.heap.size, off := 0 }), Value.pointer (some { block := w.heap.size + 1, off := 0 }), Value.pointer (some { block := w1.heap.size, off := 0 }), Value.int IntKind.i64 0, Value.pointer (some { block := w2.heap.size, off := 0 }), Value.int IntKind.i64 0, undef, u12, Value.pointer (some { block := Bb + 1, off := 0 }), Value.pointer (some { block := B14, off := 0 }), Value.pointer (some { block := B15, off := 0 }), Value.pointer (some { block := BI, off := 0 }), Value.int IntKind.i64 (↑b + 1 + ↑k), Value.pointer (some { block := Bx, off := 0 }), Value.pointer (some { block := K, off := 0 }), Value.pointer (some ⟨BK, 0, none⟩), Value.int IntKind.i64 (x.1 : Int), Value.pointer (some ⟨By, 0, none⟩), Value.tuple #[Value.pointer (some { block := g2, off := 0 }), Value.int IntKind.i64 0], Value.int IntKind.i64 ↑n, Value.tuple #[Value.pointer (some { block := g2, off := 0 }), Value.int IntKind.i64 0], Value.pointer (some { block := g2, off := 0 }), Value.int IntKind.i64 0, Value.tuple #[Value.pointer (some { block := p2, off := 0 }), Value.int IntKind.i64 0], Value.int IntKind.i64 ↑n, Value.tuple #[Value.pointer (some { block := p2, off := 0 }), Value.int IntKind.i64 0], Value.pointer (some { block := p2, off := 0 }), Value.int IntKind.i64 0, Value.pointer (some { block := p2, off := 0 }), Value.bool false, undef, undef, undef, undef, undef, undef, Value.int IntKind.i64 0, Value.bool false, Value.bool false, Value.pointer (some { block := g2, off := 0 }), Value.bool false, Value.bool false, Value.slice fo fs.length fc, Value.int IntKind.i64 ↑fs.length, Value.int IntKind.i64 ↑i, Value.bool false, u51, u52, u53, u54, u55, u56, u57, u58, u59, u60, Value.pointer (some { block := g2, off := 0 }), Value.func (Fn.func 40) #[] #[Value.pointer (some { block := Bb, off := 0 })], Value.pointer (some { block := p2, off := 0 }), Value.pointer (some { block := p2, off := 0 }), Value.pointer (some { block := p2, off := 1 }), Value.int IntKind.i64 ↑b, Value.pointer (some { block := p2, off := 0 }), Value.pointer (some { block := q, off := 0 }), Value.pointer (some { block := q, off := 0 }), Value.pointer (some { block := q, off := 2 }), Value.slice (some { block := gw, off := 0 }) L.length t9c, Value.func (Fn.func 40) #[] #[Value.pointer (some { block := Bb, off := 0 })], Value.int IntKind.i64 (↑b + 1 + ↑k), xo.snd.V, u75, u76, u77, u78, u79, u80, u81, u82, u83, u84, u85, u86, u87, u88, u89, u90, u91, u92, u93, u94, u95, u96, u97, u98, u99, u100, u101, u102, u103, u104, u105, u106, u107, u108, u109, u110, u111, u112, u113, u114, u115, u116, u117, u118, u119, u120, u121, u122, u123, u124, u125, u126, u127, u128, u129, u130, u131, u132, u133, u134, u135, u136, u137, u138, u139, u140, u141, u142, Value.func (Fn.func 40) #[] #[Value.pointer (some ⟨Bb, 0, none⟩)], Value.int IntKind.i64 (x.1 : Int), x.2.V, u146, u147, u148, u149, u150, u151, u152, u153, u154, u155, u156, u157, u158, u159, u160, u161, u162, u163, u164, u165, u166, u167, u168, u169, u170, u171, u172, u173, u174, u175, u176, u177, u178, u179, u180, u181, u182, u183, u184, u185, u186, u187, u188, u189], defers := [] })
                  (fun a' x A C row hs hg hr => by
                    obtain ⟨By, h1, h2⟩ := hs
                    refine ⟨By, (hg.block By (Array.getElem?_eq_some_iff.1 h1).1 (fun e => ?_)).trans h1, h2⟩
                    obtain ⟨_, o, ho, hoc⟩ := hr By e.symm
                    rw [h1] at ho; cases ho; cases hoc)
                  ?iassign ?ibody ?idone ?istop
                case iseq =>
                  intro l2 J Jx W2 hbW hWs hJ hY h0
                  have hA1 := A8.out.later hbW
                  obtain ⟨_, _, eBb, _, _, _, eg, eh, _⟩ := BX.out [blkC BK [.int .i64 0] 3] W2 hA1
                  have e3 : W2.heap.size + 1 = wy.heap.size + 2 := by omega
                  exact all40 (l := l2) (m := 16) (Bb := Bb) (W := W2) J Jx (KeepH (wy.heap.size + 2)) (fun A B cs h k => by rw [e3] at h ⊢; exact k cs h) eBb eg eh hk3.out hJ (fun pre x W0 W1 h1 h2 h3 => hY pre x W0 W1 h1 (by rw [e3] at h2; exact h2) h3) h0
                case iassign =>
                  rintro l2 pre2 x2 W2 K2 ⟨hp2, hA⟩ hK2
                  have HA := hid hA
                  have HK2 := hid hK2
                  clear hA hK2
                  dsimp only
                  gi_wp2
                  refine HK2.out _ _ ⟨by simp, fun k o _ hk _ => (Below.heap_alloc _ _ _ (Array.getElem?_eq_some_iff.1 hk).1).trans hk⟩ (KeepH.of HA.out.1.2.1 ((HA.out.alloc _).1.2.1)) ⟨hp2, HA.out.alloc _⟩ ⟨W2.heap.size, heap_alloc_new W2 _, rfl⟩
                case istop =>
                  rintro c ys W2 hS hI
                  exact hI.elim
                case idone =>
                  rintro ys W2 hS hI
                  rw [hxo.out]
                  have hA1 : All (optH (wy.heap.size + 2) L' ys ++ (blkC BK [.int .i64 (ys.length : Int)] 3 :: BASE)) W2 := hI
                  have hyl : ys.length = L'.length := by rw [hS, items_len]
                  rw [hyl] at hA1
                  obtain ⟨c9, _, _, _, cv2, _⟩ := BX.out (optH (wy.heap.size + 2) L' ys ++ [blkC BK [.int .i64 (L'.length : Int)] 3]) W2 (by simpa using hA1)
                  have cK : W2.cell? ⟨BK, 0, none⟩ = some (.int .i64 (L'.length : Int)) := by
                    have e := hA1.blk (g := BK) (vs := [.int .i64 (L'.length : Int)]) (t := 3) (by simp)
                    rw [cell_at e]; rfl
                  have dd : ((L'.length : Int) != (L'.length : Int)) = false := by simp
                  have A9 : Hid (∀ nq, All (blkC (w10.heap.size + 3) (flatE L) 39 :: prt n ⟨g2, h', p2, b', .slice va L'.length vc, L', ps'⟩ BI k RO) (W2.drewN nq)) := hid (fun nq => by
                    have h1 : All BASE W2 := hA1.sublist ((List.sublist_cons_self _ _).trans (List.sublist_append_right _ _))
                    rw [hBASE.out] at h1
                    exact ((prt_in (t := ⟨g2, h', p2, b', .slice va L'.length vc, L', ps'⟩) h1).sublist (.cons_cons _ (prt_sub (List.sublist_cons_self _ _)))).drewN nq)
                  clear hA1 hI hS I1 A8
                  gi_wp2
                  refine quiet_round rfl (by kernel_rfl) (by kernel_rfl) (by kernel_rfl) ?_
                  repeat (first | gi_big_quiet_step (fail) | quiet_step_in (fail))
                  refine wpQuietIn_nil ?_
                  intro _ hw'
                  obtain ⟨nq2, hw''⟩ := hw'
                  subst hw''
                  gi_wp2_with fail
                  gi_meet
                  case rel => exact ⟨⟨g2, h', p2, b', .slice va L'.length vc, L', ps'⟩, _, rfl, rfl, rfl, hk3.out, hid (A9.out _)⟩
                case ibody =>
                  rintro l2 pre2 x2 a2 W2 hl2 ⟨r2, hr2⟩ ⟨hp2, hA⟩ ⟨By, hBy, rfl⟩ hlt2
                  obtain ⟨hx1, hkL⟩ := items_next hp2
                  have hxe : L'[pre2.length]? = some x2.2 := by
                    obtain ⟨tl, htl⟩ := hp2
                    have e1 : (items b' L')[pre2.length]? = some x2 := by rw [← htl]; simp
                    have e2 := items_at b' L' pre2.length _ (List.getElem?_eq_getElem hkL)
                    rw [e1] at e2
                    rw [List.getElem?_eq_getElem hkL]
                    have e3 := congrArg Prod.snd (Option.some.inj e2)
                    exact congrArg some e3.symm
                  obtain ⟨k2, hk2⟩ : ∃ k2, Hid (k2 = pre2.length) := ⟨_, hid rfl⟩
                  rw [← hk2.out] at hx1 hkL hxe hA hlt2
                  obtain ⟨c9, _, _, cv1, cv2, hrv, _⟩ := BX.out [blkC (wy.heap.size + 2) (flatE L') 39, blkC BK [.int .i64 (k2 : Int)] 3] W2 hA
                  have eK := hA.tail.1.2.1
                  have cK : W2.cell? ⟨BK, 0, none⟩ = some (.int .i64 (k2 : Int)) := by rw [cell_at eK]; rfl
                  have fK := free_at eK 0
                  obtain ⟨gv, hgv, lgv, hrx⟩ := owns7 hrv hxe
                  obtain ⟨z1, z2, z3, z4, z5, z6, z7⟩ := entAt_of hrx
                  obtain ⟨y1, y2, y3, y4, y5, y6, y7⟩ := entAt_of (range_one hBy)
                  simp only [Nat.zero_add] at y1 y2 y3 y4 y5 y6 y7
                  have EQ := fun w => eq39 x2.2 x2.2 w
                  simp only [decide_true] at EQ
                  unfold Ent.V at EQ
                  have htp : b' + L'.length ≤ 1099511627776 := hk3.out.top
                  have wb1 : IntKind.i64.wrap ((b' : Int) + 1) = (b' : Int) + 1 := by rw [IntKind.wrap_i64]; omega
                  have wb2 : IntKind.i64.wrap ((b' : Int) + 1 + (k2 : Int)) = (b' : Int) + 1 + (k2 : Int) := by rw [IntKind.wrap_i64]; omega
                  have wk2 : IntKind.i64.wrap ((k2 : Int) + 1) = (k2 : Int) + 1 := by rw [IntKind.wrap_i64]; omega
                  have dk1 : ¬ (L'.length : Int) ≤ (k2 : Int) := by omega
                  have dk2 : decide ((L'.length : Int) ≤ (k2 : Int)) = false := decide_eq_false dk1
                  have dk3 : decide (L'.length ≤ k2) = false := decide_eq_false (by omega)
                  have dk4 : k2 < L'.length := hkL
                  have dk5 : (k2 : Int) < (L'.length : Int) := by omega
                  have dx1 : (x2.1 : Int) = (b' : Int) + 1 + (k2 : Int) := by rw [hx1]; omega
                  have FINB : Hid (∀ nq, KeepsFrom wy.heap.size W2 ((W2.drewN nq).setCell ⟨BK, 0, none⟩ (.int .i64 ((k2 : Int) + 1))) ∧ KeepH (wy.heap.size + 2) W2 ((W2.drewN nq).setCell ⟨BK, 0, none⟩ (.int .i64 ((k2 : Int) + 1))) ∧ IJ (wy.heap.size + 2) L' BK BASE (pre2 ++ [x2]) ((W2.drewN nq).setCell ⟨BK, 0, none⟩ (.int .i64 ((k2 : Int) + 1)))) := hid (fun nq => by
                    have h1 := (hA.drewN nq).swap.setBlk 0 (.int .i64 ((k2 : Int) + 1))
                    have h2 := h1.swap
                    have eK2 := (hA.drewN nq).tail.1.2.1
                    have hkk : KeepsFrom wy.heap.size (W2.drewN nq) ((W2.drewN nq).setCell ⟨BK, 0, none⟩ (.int .i64 ((k2 : Int) + 1))) := keeps_grown (grownBy_setCell' (W2.drewN nq) _ _) (fun r e => by cases e; exact ⟨_, eK2, rfl⟩)
                    refine ⟨⟨hkk.size, hkk.same⟩, KeepH.of hA.1.2.1 h2.1.2.1, ?_⟩
                    unfold IJ
                    rw [optH, if_neg (by simp), List.length_append, List.length_singleton, ← hk2.out]
                    exact h2)
                  subst hgv
                  clear hA hrv hrx hBy hp2 hxe hx1 htp eK I1 A8
                  dsimp only
                  gi_wp2
                  refine quiet_round rfl (by kernel_rfl) (by kernel_rfl) (by kernel_rfl) ?_
                  repeat (first | gi_big_quiet_step (fail) | quiet_step_in (fail))
                  refine wpQuietIn_nil ?_
                  intro _ hw'
                  obtain ⟨nq2, hw''⟩ := hw'
                  subst hw''
                  clear y1 y2 y3 y4 y5 y6 y7 z1 z2 z3 z4 z5 z6 z7 EQ
                  gi_wp2
                  exact FINB.out _
              · skip
                obtain ⟨qa, b', L', D1, D2⟩ := cut_two (g := g2) (h := h2) (p := p2) hok2.out y.op
                have C1 := hid (D1 _ _ A5.out.drew)
                have D2 := hid D2
                clear D1
                gi_wp2
                refine held_roundN (fun W => W.cell? ⟨w1.heap.size, 0, none⟩ = some (.pointer (some ⟨g2, 0, none⟩)) ∧ W.cell? ⟨w2.heap.size, 0, none⟩ = some (.pointer (some ⟨p2, 0, none⟩)) ∧ W.cell? ⟨K, 2, none⟩ = some (.int .i64 y.op)) (by kernel_rfl) (by kernel_rfl) ?_
                refine wpAnyH_take (i := 0) (v := ?_) rfl (by kernel_rfl) (by kernel_rfl) (by kernel_rfl) (fun _ _ _ h => h) (Or.inl ⟨by rfl, by intro w hSw; (try dsimp only at hSw); go_simp; first | done | with_reducible rfl⟩) ⟨c7, c9, k2⟩ ?_
                try simp only [Act.put, List.setIfInBounds_toArray]
                refine wpAnyH_take (i := 1) (v := ?_) rfl (by kernel_rfl) (by kernel_rfl) (by kernel_rfl) (fun _ _ _ h => h) (Or.inl ⟨by rfl, by intro w hSw; (try dsimp only at hSw); go_simp; first | done | with_reducible rfl⟩) ⟨c7, c9, k2⟩ ?_
                try simp only [Act.put]
                refine wpAnyH_take (i := 2) (v := ?_) rfl (by kernel_rfl) (by kernel_rfl) (by kernel_rfl) (fun _ _ _ h => h) (Or.inl ⟨by rfl, by intro w hSw; (try dsimp only at hSw); go_simp; first | done | with_reducible rfl⟩) ⟨c7, c9, k2⟩ ?_
                try simp only [Act.put]
                refine wpAnyH_take (i := 4) (v := ?_) rfl (by kernel_rfl) (by kernel_rfl) (by kernel_rfl) (fun _ _ _ h => h) (Or.inl ⟨by rfl, by intro w hSw; (try dsimp only at hSw); go_simp; first | done | with_reducible rfl⟩) ⟨c7, c9, k2⟩ ?_
                try simp only [Act.put]
                refine wpAnyH_take (i := 5) (v := ?_) rfl (by kernel_rfl) (by kernel_rfl) (by kernel_rfl) (fun _ _ _ h => h) (Or.inl ⟨by rfl, by intro w hSw; (try dsimp only at hSw); go_simp; first | done | with_reducible rfl⟩) ⟨c7, c9, k2⟩ ?_
                try simp only [Act.put]
                refine wpAnyH_take (i := 6) (v := ?_) rfl (by kernel_rfl) (by kernel_rfl) (by kernel_rfl) (fun _ _ _ h => h) (Or.inl ⟨by rfl, by intro w hSw; (try dsimp only at hSw); go_simp; first | done | with_reducible rfl⟩) ⟨c7, c9, k2⟩ ?_
                try simp only [Act.put]
                refine wpAnyH_ready (rs := [3]) (by kernel_rfl) (by simp) ?_
                refine AllReadyH.cons rfl (fun K1 hK1 => ?_) AllReadyH.nil
                go_simp
                refine C1.out.mono ?_
                rintro e w6 ⟨rfl, h', ps', hk', A6⟩
                have A6 := hid A6
                clear c7 c9 k0 k2 k4 k5 k6 k7 k8 k9 k10 k11
                obtain ⟨c7, c9, ⟨k0, k2, k4, k5, k6, k7, k8, k9, k10, k11⟩, hb6, _⟩ := CZ.out (logP g2 h' b' (b' + L'.length) n ps' ++ refP p2 n b2 v2 L2) _ (by simpa using A6.out)
                refine hK1.out _ _ ⟨c7, c9, k2⟩ (fun _ => ?_)
                clear hK1 K1
                try simp only [Act.put, List.setIfInBounds_toArray, List.set_cons_zero, List.set_cons_succ]
                have C2 := hid (D2.out _ _ _ A6.out.flip)
                refine wpAnyH_ready (rs := [7]) (by kernel_rfl) (by simp) ?_
                refine AllReadyH.cons rfl (fun K1 hK1 => ?_) AllReadyH.nil
                go_simp
                refine C2.out.mono ?_
                rintro e w7 ⟨rfl, v', A7⟩
                have A7 := hid A7.flip
                clear c7 c9 k0 k2 k4 k5 k6 k7 k8 k9 k10 k11
                obtain ⟨c7, c9, ⟨k0, k2, k4, k5, k6, k7, k8, k9, k10, k11⟩, _, c13, cBb⟩ := CZ.out (logP g2 h' b' (b' + L'.length) n ps' ++ refP p2 n b' v' L') _ (by simpa using A7.out)
                refine hK1.out _ _ ⟨c7, c9, k2⟩ (fun _ => ?_)
                clear hK1 K1
                try simp only [Act.put, List.setIfInBounds_toArray, List.set_cons_zero, List.set_cons_succ]
                refine wpAnyH_take (i := 8) (v := ?_) rfl (by kernel_rfl) (by kernel_rfl) (by kernel_rfl) (fun _ _ _ h => h) (Or.inl ⟨by rfl, by intro w hSw; (try dsimp only at hSw); go_simp; first | done | with_reducible rfl⟩) ⟨c7, c9, k2⟩ ?_
                try simp only [Act.put, List.setIfInBounds_toArray]
                refine wpAnyH_done (by kernel_rfl) ?_ _
                simp only [onlyN]
                clear C1 C2 A6 A5 D2 k0 k2 k4 k5 k6 k7 k8 k9 k10 k11
                obtain ⟨BASE, hBASE⟩ : ∃ BASE, Hid (BASE = logP g2 h' b' (b' + L'.length) n ps' ++ (refP p2 n b' v' L' ++ (blkC (w10.heap.size + 3) (flatE L) 39 :: blkC BI [.int .i64 (k : Int)] 3 :: blkC K [.int .i64 y.kd, .int .i64 y.lg, .int .i64 y.op, .int .i64 y.ms, .int .i64 y.e.c, .int .i64 y.e.n, .int .i64 y.e.k, .string y.e.nm, .string y.e.tx, .int .i64 y.e.m, .int .i64 y.e.q, .slice sa y.l.length sc] 42 :: RO))) := ⟨_, hid rfl⟩
                have hk3 := hid hk'
                have A7 : Hid (All BASE w7) := hid (by rw [hBASE.out]; exact A7.out)
                clear c7 c9 c13 cBb hk'
                gi_upto_region 33 with fail
                simp only [List.getElem_toArray, List.getElem_cons_zero, List.getElem_cons_succ, List.set_cons_zero, List.set_cons_succ]
                gi_cut [20] from 75 (fun v20 wc => ∃ BK wy, wy = wc ∧ v20 = .pointer (some ⟨BK, 0, none⟩) ∧ Hid (All (blkC BK [.int .i64 0] 3 :: BASE) wy))
                case first =>
                  gi_wp2_with fail
                  gi_meet
                  case rel => exact ⟨_, _, rfl, rfl, hid (A7.out.addBlk [.int .i64 0] 3)⟩
                case rest =>
                obtain ⟨BK, wy, rfl, rfl, A8⟩ := hcut
                clear A7
                have BX : Hid (∀ (Y : List Comp) W1, All (Y ++ BASE) W1 → W1.cell? ⟨w2.heap.size, 0, none⟩ = some (.pointer (some ⟨p2, 0, none⟩)) ∧ W1.cell? ⟨Bb + 1, 0, none⟩ = some (.func (.func 40) #[] #[.pointer (some ⟨Bb, 0, none⟩)]) ∧ W1.cell? ⟨Bb, 0, none⟩ = some (.pointer (some ⟨g2, 0, none⟩)) ∧ W1.cell? ⟨p2, 1, none⟩ = some (.int .i64 (b' : Int)) ∧ W1.cell? ⟨p2, 2, none⟩ = some v' ∧ W1.ownsRow 0 39 7 v' L'.length (flatE L') ∧ HeadAt W1 g2 b' (b' + L'.length) h' n ∧ W1.heap[h']? = some (.cells (flatE ps').toArray 39 (0, 0)) ∧ Fr F W W1) := hid (fun Y W1 hA => by
                  rw [hBASE.out] at hA
                  obtain ⟨_, a2, _, _, a5, a6⟩ := CZ.out (Y ++ (logP g2 h' b' (b' + L'.length) n ps' ++ refP p2 n b' v' L')) W1 (by simpa using hA)
                  have e1 := hA.blk (g := p2) (vs := [.int .i64 (n : Int), .int .i64 (b' : Int), v']) (t := 47) (by simp [refP])
                  have e2 := (hA.mem (c := entC v' L') (by simp [refP])).2.1
                  have e3 := hA.blk (g := g2) (vs := headV b' (b' + L'.length) h' n) (t := 65) (by simp [logP])
                  have e4 := hA.blk (g := h') (vs := flatE ps') (t := 39) (by simp [logP])
                  exact ⟨a2, a5, a6, by rw [cell_at e1]; rfl, by rw [cell_at e1]; rfl, e2, e3, e4, hA.oldAt (by rw [hRO.out]; simp)⟩)
                obtain ⟨_, c13, cBb, _, _, hrv, _, _, hFr⟩ := BX.out [blkC BK [.int .i64 0] 3] _ A8.out
                obtain ⟨va, vc, rfl, hvc⟩ := owns7_form hrv
                have BL2 : Hid (Okay wy.heap.size BASE) := hid (fun d hd => .inl (A8.out.lts d (by simp [hd])))
                have I1 : Hid (IJ (wy.heap.size + 2) L' BK BASE [] wy) := hid (by unfold IJ; rw [optH, if_pos rfl, List.nil_append]; exact A8.out)
                have HL10 : wy.heap[l]? = some (.loop r) := (KEEP.out wy hFr).same l _ hl hr rfl
                obtain ⟨xo, hxo⟩ : ∃ xo, Hid (xo = x) := ⟨_, hid rfl⟩
                clear hrv hFr
                gi_wp2
                rw [← hxo.out]
                refine range_goodN (P := Try.prog) (n := 18) (l₀ := l) (r₀ := r) HL10 (by omega) (gf := 40) (lb := #[.pointer (some ⟨Bb, 0, none⟩)]) rfl (enters_of Try.func40 (by kernel_rfl) rfl)
                  (encs := fun x : Nat × Ent => #[.int .i64 (x.1 : Int), x.2.V]) (Kp := KeepH (wy.heap.size + 2)) (Fresh := fun pre x W0 W1 => FreshI (wy.heap.size + 2) b' L' pre x W0 W1) (S := fun ys => ys = items b' L') (Sp := fun ys => ys <+: items b' L') (Nm := 64) ?iseq
                  (fun h k => h.then k) (fun W l o o' h1 h2 => KeepH.put W l o o' h1 h2) (fun _ => rfl)
                  (IJ (wy.heap.size + 2) L' BK BASE) (fun c pre W => False) (IJ2 (wy.heap.size + 2) b' L' BK BASE)
                  (IJ_own BL2.out) (fun c s A C row hs hg hr => hs) (fun pre => IJ2_own pre BL2.out) (fun pre x W0 W1 h => h.below) (fun pre x W0 W1 h hf => IJ_fresh h hf)
                  I1.out
                  (fun x a' W => ∃ By, W.heap[By]? = some (.cells x.2.cells.toArray 39 (0, 0)) ∧ a' = { tmps := #[Value.int IntKind.i64 ↑n, Value.slice fo fs.length fc, Value.slice (some { block := ga, off := oa }) acts.length cp, undef, undef, Value.pointer (some { block := w.heap.size, off := 0 }), Value.pointer (some { block := w.heap.size + 1, off := 0 }), Value.pointer (some { block := w1.heap.size, off := 0 }), Value.int IntKind.i64 0, Value.pointer (some { block := w2.heap.size, off := 0 }), Value.int IntKind.i64 0, undef, u12, Value.pointer (some { block := Bb + 1, off := 0 }), Value.pointer (some { block := B14, off := 0 }), Value.pointer (some { block := B15, off := 0 }), Value.pointer (some { block := BI, off := 0 }), Value.int IntKind.i64 (↑b + 1 + ↑k), Value.pointer (some { block := Bx, off := 0 }), Value.pointer (some { block := K, off := 0 }), Value.pointer (some ⟨BK, 0, none⟩), Value.int IntKind.i64 (x.1 : Int), Value.pointer (some ⟨By, 0, none⟩), Value.tuple #[Value.pointer (some { block := g2, off := 0 }), Value.int IntKind.i64 0], Value.int IntKind.i64 ↑n, Value.tuple #[Value.pointer (some { block := g2, off := 0 }), Value.int IntKind.i64 0], Value.pointer (some { block := g2, off := 0 }), Value.int IntKind.i64 0, Value.tuple #[Value.pointer (some { block := p2, off := 0 }), Value.int IntKind.i64 0], Value.int IntKind.i64 ↑n, Value.tuple #[Value.pointer (some { block := p2, off := 0 }), Value.int IntKind.i64 0], Value.pointer (some { block := p2, off := 0 }), Value.int IntKind.i64 0, Value.pointer (some { block := p2, off := 0 }), Value.bool false, undef, undef, undef, undef, undef, undef, Value.int IntKind.i64 0, Value.bool false, Value.bool false, Value.pointer (some { block := g2, off := 0 }), Value.bool false, Value.bool false, Value.slice fo fs.length fc, Value.int IntKind.i64 ↑fs.length, Value.int IntKind.i64 ↑i, Value.bool false, u51, u52, u53, u54, u55, u56, u57, u58, u59, u60, Value.pointer (some { block := g2, off := 0 }), Value.func (Fn.func 40) #[] #[Value.pointer (some { block := Bb, off := 0 })], Value.pointer (some { block := p2, off := 0 }), Value.pointer (some { block := p2, off := 0 }), Value.pointer (some { block := p2, off := 1 }), Value.int IntKind.i64 ↑b, Value.pointer (some { block := p2, off := 0 }), Value.pointer (some { block := q, off := 0 }), Value.pointer (some { block := q, off := 0 }), Value.pointer (some { block := q, off := 2 }), Value.slice (some { block := gw, off := 0 }) L.length t9c, Value.func (Fn.func 40) #[] #[Value.pointer (some { block := Bb, off := 0 })], Value.int IntKind.i64 (↑b + 1 + ↑k), xo.snd.V, u75, u76, u77, u78, u79, u80, u81, u82, u83, u84, u85, u86, u87, u88, u89, u90, u91, u92, u93, u94, u95, u96, u97, u98, u99, u100, u101, u102, u103, u104, u105, u106, u107, u108, u109, u110, u111, u112, u113, u114, u115, u116, u117, u118, u119, u120, u121, u122, u123, u124, u125, u126, u127, u128, u129, u130, u131, u132, u133, u134, u135, u136, u137, u138, u139, u140, u141, u142, Value.func (Fn.func 40) #[] #[Value.pointer (some ⟨Bb, 0, none⟩)], Value.int IntKind.i64 (x.1 : Int), x.2.V, u146, u147, u148, u149, u150, u151, u152, u153, u154, u155, u156, u157, u158, u159, u160, u161, u162, u163, u164, u165, u166, u167, u168, u169, u170, u171, u172, u173, u174, u175, u176, u177, u178, u179, u180, u181, u182, u183, u184, u185, u186, u187, u188, u189], defers := [] })
                  (fun a' x A C row hs hg hr => by
                    obtain ⟨By, h1, h2⟩ := hs
                    refine ⟨By, (hg.block By (Array.getElem?_eq_some_iff.1 h1).1 (fun e => ?_)).trans h1, h2⟩
                    obtain ⟨_, o, ho, hoc⟩ := hr By e.symm
                    rw [h1] at ho; cases ho; cases hoc)
                  ?iassign ?ibody ?idone ?istop
                case iseq =>
                  intro l2 J Jx W2 hbW hWs hJ hY h0
                  have hA1 := A8.out.later hbW
                  obtain ⟨_, _, eBb, _, _, _, eg, eh, _⟩ := BX.out [blkC BK [.int .i64 0] 3] W2 hA1
                  have e3 : W2.heap.size + 1 = wy.heap.size + 2 := by omega
                  exact all40 (l := l2) (m := 16) (Bb := Bb) (W := W2) J Jx (KeepH (wy.heap.size + 2)) (fun A B cs h k => by rw [e3] at h ⊢; exact k cs h) eBb eg eh hk3.out hJ (fun pre x W0 W1 h1 h2 h3 => hY pre x W0 W1 h1 (by rw [e3] at h2; exact h2) h3) h0
                case iassign =>
                  rintro l2 pre2 x2 W2 K2 ⟨hp2, hA⟩ hK2
                  have HA := hid hA
                  have HK2 := hid hK2
                  clear hA hK2
                  dsimp only
                  gi_wp2
                  refine HK2.out _ _ ⟨by simp, fun k o _ hk _ => (Below.heap_alloc _ _ _ (Array.getElem?_eq_some_iff.1 hk).1).trans hk⟩ (KeepH.of HA.out.1.2.1 ((HA.out.alloc _).1.2.1)) ⟨hp2, HA.out.alloc _⟩ ⟨W2.heap.size, heap_alloc_new W2 _, rfl⟩
                case istop =>
                  rintro c ys W2 hS hI
                  exact hI.elim
                case idone =>
                  rintro ys W2 hS hI
                  rw [hxo.out]
                  have hA1 : All (optH (wy.heap.size + 2) L' ys ++ (blkC BK [.int .i64 (ys.length : Int)] 3 :: BASE)) W2 := hI
                  have hyl : ys.length = L'.length := by rw [hS, items_len]
                  rw [hyl] at hA1
                  obtain ⟨c9, _, _, _, cv2, _⟩ := BX.out (optH (wy.heap.size + 2) L' ys ++ [blkC BK [.int .i64 (L'.length : Int)] 3]) W2 (by simpa using hA1)
                  have cK : W2.cell? ⟨BK, 0, none⟩ = some (.int .i64 (L'.length : Int)) := by
                    have e := hA1.blk (g := BK) (vs := [.int .i64 (L'.length : Int)]) (t := 3) (by simp)
                    rw [cell_at e]; rfl
                  have dd : ((L'.length : Int) != (L'.length : Int)) = false := by simp
                  have A9 : Hid (∀ nq, All (blkC (w10.heap.size + 3) (flatE L) 39 :: prt n ⟨g2, h', p2, b', .slice va L'.length vc, L', ps'⟩ BI k RO) (W2.drewN nq)) := hid (fun nq => by
                    have h1 : All BASE W2 := hA1.sublist ((List.sublist_cons_self _ _).trans (List.sublist_append_right _ _))
                    rw [hBASE.out] at h1
                    exact ((prt_in (t := ⟨g2, h', p2, b', .slice va L'.length vc, L', ps'⟩) h1).sublist (.cons_cons _ (prt_sub (List.sublist_cons_self _ _)))).drewN nq)
                  clear hA1 hI hS I1 A8
                  gi_wp2
                  refine quiet_round rfl (by kernel_rfl) (by kernel_rfl) (by kernel_rfl) ?_
                  repeat (first | gi_big_quiet_step (fail) | quiet_step_in (fail))
                  refine wpQuietIn_nil ?_
                  intro _ hw'
                  obtain ⟨nq2, hw''⟩ := hw'
                  subst hw''
                  gi_wp2_with fail
                  gi_meet
                  case rel => exact ⟨⟨g2, h', p2, b', .slice va L'.length vc, L', ps'⟩, _, rfl, rfl, rfl, hk3.out, hid (A9.out _)⟩
                case ibody =>
                  rintro l2 pre2 x2 a2 W2 hl2 ⟨r2, hr2⟩ ⟨hp2, hA⟩ ⟨By, hBy, rfl⟩ hlt2
                  obtain ⟨hx1, hkL⟩ := items_next hp2
                  have hxe : L'[pre2.length]? = some x2.2 := by
                    obtain ⟨tl, htl⟩ := hp2
                    have e1 : (items b' L')[pre2.length]? = some x2 := by rw [← htl]; simp
                    have e2 := items_at b' L' pre2.length _ (List.getElem?_eq_getElem hkL)
                    rw [e1] at e2
                    rw [List.getElem?_eq_getElem hkL]
                    have e3 := congrArg Prod.snd (Option.some.inj e2)
                    exact congrArg some e3.symm
                  obtain ⟨k2, hk2⟩ : ∃ k2, Hid (k2 = pre2.length) := ⟨_, hid rfl⟩
                  rw [← hk2.out] at hx1 hkL hxe hA hlt2
                  obtain ⟨c9, _, _, cv1, cv2, hrv, _⟩ := BX.out [blkC (wy.heap.size + 2) (flatE L') 39, blkC BK [.int .i64 (k2 : Int)] 3] W2 hA
                  have eK := hA.tail.1.2.1
                  have cK : W2.cell? ⟨BK, 0, none⟩ = some (.int .i64 (k2 : Int)) := by rw [cell_at eK]; rfl
                  have fK := free_at eK 0
                  obtain ⟨gv, hgv, lgv, hrx⟩ := owns7 hrv hxe
                  obtain ⟨z1, z2, z3, z4, z5, z6, z7⟩ := entAt_of hrx
                  obtain ⟨y1, y2, y3, y4, y5, y6, y7⟩ := entAt_of (range_one hBy)
                  simp only [Nat.zero_add] at y1 y2 y3 y4 y5 y6 y7
                  have EQ := fun w => eq39 x2.2 x2.2 w
                  simp only [decide_true] at EQ
                  unfold Ent.V at EQ
                  have htp : b' + L'.length ≤ 1099511627776 := hk3.out.top
                  have wb1 : IntKind.i64.wrap ((b' : Int) + 1) = (b' : Int) + 1 := by rw [IntKind.wrap_i64]; omega
                  have wb2 : IntKind.i64.wrap ((b' : Int) + 1 + (k2 : Int)) = (b' : Int) + 1 + (k2 : Int) := by rw [IntKind.wrap_i64]; omega
                  have wk2 : IntKind.i64.wrap ((k2 : Int) + 1) = (k2 : Int) + 1 := by rw [IntKind.wrap_i64]; omega
                  have dk1 : ¬ (L'.length : Int) ≤ (k2 : Int) := by omega
                  have dk2 : decide ((L'.length : Int) ≤ (k2 : Int)) = false := decide_eq_false dk1
                  have dk3 : decide (L'.length ≤ k2) = false := decide_eq_false (by omega)
                  have dk4 : k2 < L'.length := hkL
                  have dk5 : (k2 : Int) < (L'.length : Int) := by omega
                  have dx1 : (x2.1 : Int) = (b' : Int) + 1 + (k2 : Int) := by rw [hx1]; omega
                  have FINB : Hid (∀ nq, KeepsFrom wy.heap.size W2 ((W2.drewN nq).setCell ⟨BK, 0, none⟩ (.int .i64 ((k2 : Int) + 1))) ∧ KeepH (wy.heap.size + 2) W2 ((W2.drewN nq).setCell ⟨BK, 0, none⟩ (.int .i64 ((k2 : Int) + 1))) ∧ IJ (wy.heap.size + 2) L' BK BASE (pre2 ++ [x2]) ((W2.drewN nq).setCell ⟨BK, 0, none⟩ (.int .i64 ((k2 : Int) + 1)))) := hid (fun nq => by
                    have h1 := (hA.drewN nq).swap.setBlk 0 (.int .i64 ((k2 : Int) + 1))
                    have h2 := h1.swap
                    have eK2 := (hA.drewN nq).tail.1.2.1
                    have hkk : KeepsFrom wy.heap.size (W2.drewN nq) ((W2.drewN nq).setCell ⟨BK, 0, none⟩ (.int .i64 ((k2 : Int) + 1))) := keeps_grown (grownBy_setCell' (W2.drewN nq) _ _) (fun r e => by cases e; exact ⟨_, eK2, rfl⟩)
                    refine ⟨⟨hkk.size, hkk.same⟩, KeepH.of hA.1.2.1 h2.1.2.1, ?_⟩
                    unfold IJ
                    rw [optH, if_neg (by simp), List.length_append, List.length_singleton, ← hk2.out]
                    exact h2)
                  subst hgv
                  clear hA hrv hrx hBy hp2 hxe hx1 htp eK I1 A8
                  dsimp only
                  gi_wp2
                  refine quiet_round rfl (by kernel_rfl) (by kernel_rfl) (by kernel_rfl) ?_
                  repeat (first | gi_big_quiet_step (fail) | quiet_step_in (fail))
                  refine wpQuietIn_nil ?_
                  intro _ hw'
                  obtain ⟨nq2, hw''⟩ := hw'
                  subst hw''
                  clear y1 y2 y3 y4 y5 y6 y7 z1 z2 z3 z4 z5 z6 z7 EQ
                  gi_wp2
                  exact FINB.out _
              · skip
                obtain ⟨qa, b', L', D1, D2⟩ := reset_two (g := g2) (h := h2) (p := p2) hok2.out y.op HG.out.op HG.out.few
                have HEW : Hid (∀ W, Below w.heap.size w W → EntsW W (.slice sa y.l.length sc) y.l) := hid (fun W hb => by have := HG.out.rd.later hb; rw [HES.out] at this; exact this)
                have C1 := hid (D1 (.slice sa y.l.length sc) _ _ A5.out.drew (fun W hW => HEW.out W (CZ.out (refP p2 n b2 v2 L2) W hW).2.2.2.1))
                have D2 := hid D2
                clear D1
                gi_wp2
                refine held_roundN (fun W => W.cell? ⟨w1.heap.size, 0, none⟩ = some (.pointer (some ⟨g2, 0, none⟩)) ∧ W.cell? ⟨w2.heap.size, 0, none⟩ = some (.pointer (some ⟨p2, 0, none⟩)) ∧ W.cell? ⟨K, 2, none⟩ = some (.int .i64 y.op) ∧ W.cell? ⟨K, 11, none⟩ = some (.slice sa y.l.length sc)) (by kernel_rfl) (by kernel_rfl) ?_
                refine wpAnyH_take (i := 0) (v := ?_) rfl (by kernel_rfl) (by kernel_rfl) (by kernel_rfl) (fun _ _ _ h => h) (Or.inl ⟨by rfl, by intro w hSw; (try dsimp only at hSw); go_simp; first | done | with_reducible rfl⟩) ⟨c7, c9, k2, k11⟩ ?_
                try simp only [Act.put, List.setIfInBounds_toArray]
                refine wpAnyH_take (i := 1) (v := ?_) rfl (by kernel_rfl) (by kernel_rfl) (by kernel_rfl) (fun _ _ _ h => h) (Or.inl ⟨by rfl, by intro w hSw; (try dsimp only at hSw); go_simp; first | done | with_reducible rfl⟩) ⟨c7, c9, k2, k11⟩ ?_
                try simp only [Act.put]
                refine wpAnyH_take (i := 2) (v := ?_) rfl (by kernel_rfl) (by kernel_rfl) (by kernel_rfl) (fun _ _ _ h => h) (Or.inl ⟨by rfl, by intro w hSw; (try dsimp only at hSw); go_simp; first | done | with_reducible rfl⟩) ⟨c7, c9, k2, k11⟩ ?_
                try simp only [Act.put]
                refine wpAnyH_take (i := 3) (v := ?_) rfl (by kernel_rfl) (by kernel_rfl) (by kernel_rfl) (fun _ _ _ h => h) (Or.inl ⟨by rfl, by intro w hSw; (try dsimp only at hSw); go_simp; first | done | with_reducible rfl⟩) ⟨c7, c9, k2, k11⟩ ?_
                try simp only [Act.put]
                refine wpAnyH_take (i := 4) (v := ?_) rfl (by kernel_rfl) (by kernel_rfl) (by kernel_rfl) (fun _ _ _ h => h) (Or.inl ⟨by rfl, by intro w hSw; (try dsimp only at hSw); go_simp; first | done | with_reducible rfl⟩) ⟨c7, c9, k2, k11⟩ ?_
                try simp only [Act.put]
                refine wpAnyH_take (i := 6) (v := ?_) rfl (by kernel_rfl) (by kernel_rfl) (by kernel_rfl) (fun _ _ _ h => h) (Or.inl ⟨by rfl, by intro w hSw; (try dsimp only at hSw); go_simp; first | done | with_reducible rfl⟩) ⟨c7, c9, k2, k11⟩ ?_
                try simp only [Act.put]
                refine wpAnyH_take (i := 7) (v := ?_) rfl (by kernel_rfl) (by kernel_rfl) (by kernel_rfl) (fun _ _ _ h => h) (Or.inl ⟨by rfl, by intro w hSw; (try dsimp only at hSw); go_simp; first | done | with_reducible rfl⟩) ⟨c7, c9, k2, k11⟩ ?_
                try simp only [Act.put]
                refine wpAnyH_take (i := 8) (v := ?_) rfl (by kernel_rfl) (by kernel_rfl) (by kernel_rfl) (fun _ _ _ h => h) (Or.inl ⟨by rfl, by intro w hSw; (try dsimp only at hSw); go_simp; first | done | with_reducible rfl⟩) ⟨c7, c9, k2, k11⟩ ?_
                try simp only [Act.put]
                refine wpAnyH_take (i := 9) (v := ?_) rfl (by kernel_rfl) (by kernel_rfl) (by kernel_rfl) (fun _ _ _ h => h) (Or.inl ⟨by rfl, by intro w hSw; (try dsimp only at hSw); go_simp; first | done | with_reducible rfl⟩) ⟨c7, c9, k2, k11⟩ ?_
                try simp only [Act.put]
                refine wpAnyH_take (i := 10) (v := ?_) rfl (by kernel_rfl) (by kernel_rfl) (by kernel_rfl) (fun _ _ _ h => h) (Or.inl ⟨by rfl, by intro w hSw; (try dsimp only at hSw); go_simp; first | done | with_reducible rfl⟩) ⟨c7, c9, k2, k11⟩ ?_
                try simp only [Act.put]
                refine wpAnyH_ready (rs := [5]) (by kernel_rfl) (by simp) ?_
                refine AllReadyH.cons rfl (fun K1 hK1 => ?_) AllReadyH.nil
                go_simp
                refine C1.out.mono ?_
                rintro e w6 ⟨rfl, h', ps', hk', A6⟩
                have A6 := hid A6
                clear c7 c9 k0 k2 k4 k5 k6 k7 k8 k9 k10 k11
                obtain ⟨c7, c9, ⟨k0, k2, k4, k5, k6, k7, k8, k9, k10, k11⟩, hb6, _⟩ := CZ.out (logP g2 h' b' (b' + L'.length) n ps' ++ refP p2 n b2 v2 L2) _ (by simpa using A6.out)
                refine hK1.out _ _ ⟨c7, c9, k2, k11⟩ (fun _ => ?_)
                clear hK1 K1
                try simp only [Act.put, List.setIfInBounds_toArray, List.set_cons_zero, List.set_cons_succ]
                have C2 := hid (D2.out (.slice sa y.l.length sc) _ _ _ A6.out.flip (HEW.out _ hb6))
                refine wpAnyH_ready (rs := [11]) (by kernel_rfl) (by simp) ?_
                refine AllReadyH.cons rfl (fun K1 hK1 => ?_) AllReadyH.nil
                go_simp
                refine C2.out.mono ?_
                rintro e w7 ⟨rfl, v', A7⟩
                have A7 := hid A7.flip
                clear c7 c9 k0 k2 k4 k5 k6 k7 k8 k9 k10 k11
                obtain ⟨c7, c9, ⟨k0, k2, k4, k5, k6, k7, k8, k9, k10, k11⟩, _, c13, cBb⟩ := CZ.out (logP g2 h' b' (b' + L'.length) n ps' ++ refP p2 n b' v' L') _ (by simpa using A7.out)
                refine hK1.out _ _ ⟨c7, c9, k2, k11⟩ (fun _ => ?_)
                clear hK1 K1
                try simp only [Act.put, List.setIfInBounds_toArray, List.set_cons_zero, List.set_cons_succ]
                refine wpAnyH_take (i := 12) (v := ?_) rfl (by kernel_rfl) (by kernel_rfl) (by kernel_rfl) (fun _ _ _ h => h) (Or.inl ⟨by rfl, by intro w hSw; (try dsimp only at hSw); go_simp; first | done | with_reducible rfl⟩) ⟨c7, c9, k2, k11⟩ ?_
                try simp only [Act.put, List.setIfInBounds_toArray]
                refine wpAnyH_done (by kernel_rfl) ?_ _
                simp only [onlyN]
                clear C1 C2 A6 A5 D2 k0 k2 k4 k5 k6 k7 k8 k9 k10 k11
                obtain ⟨BASE, hBASE⟩ : ∃ BASE, Hid (BASE = logP g2 h' b' (b' + L'.length) n ps' ++ (refP p2 n b' v' L' ++ (blkC (w10.heap.size + 3) (flatE L) 39 :: blkC BI [.int .i64 (k : Int)] 3 :: blkC K [.int .i64 y.kd, .int .i64 y.lg, .int .i64 y.op, .int .i64 y.ms, .int .i64 y.e.c, .int .i64 y.e.n, .int .i64 y.e.k, .string y.e.nm, .string y.e.tx, .int .i64 y.e.m, .int .i64 y.e.q, .slice sa y.l.length sc] 42 :: RO))) := ⟨_, hid rfl⟩
                have hk3 := hid hk'
                have A7 : Hid (All BASE w7) := hid (by rw [hBASE.out]; exact A7.out)
                clear c7 c9 c13 cBb hk'
                gi_upto_region 33 with fail
                simp only [List.getElem_toArray, List.getElem_cons_zero, List.getElem_cons_succ, List.set_cons_zero, List.set_cons_succ]
                gi_cut [20] from 75 (fun v20 wc => ∃ BK wy, wy = wc ∧ v20 = .pointer (some ⟨BK, 0, none⟩) ∧ Hid (All (blkC BK [.int .i64 0] 3 :: BASE) wy))
                case first =>
                  gi_wp2_with fail
                  gi_meet
                  case rel => exact ⟨_, _, rfl, rfl, hid (A7.out.addBlk [.int .i64 0] 3)⟩
                case rest =>
                obtain ⟨BK, wy, rfl, rfl, A8⟩ := hcut
                clear A7
                have BX : Hid (∀ (Y : List Comp) W1, All (Y ++ BASE) W1 → W1.cell? ⟨w2.heap.size, 0, none⟩ = some (.pointer (some ⟨p2, 0, none⟩)) ∧ W1.cell? ⟨Bb + 1, 0, none⟩ = some (.func (.func 40) #[] #[.pointer (some ⟨Bb, 0, none⟩)]) ∧ W1.cell? ⟨Bb, 0, none⟩ = some (.pointer (some ⟨g2, 0, none⟩)) ∧ W1.cell? ⟨p2, 1, none⟩ = some (.int .i64 (b' : Int)) ∧ W1.cell? ⟨p2, 2, none⟩ = some v' ∧ W1.ownsRow 0 39 7 v' L'.length (flatE L') ∧ HeadAt W1 g2 b' (b' + L'.length) h' n ∧ W1.heap[h']? = some (.cells (flatE ps').toArray 39 (0, 0)) ∧ Fr F W W1) := hid (fun Y W1 hA => by
                  rw [hBASE.out] at hA
                  obtain ⟨_, a2, _, _, a5, a6⟩ := CZ.out (Y ++ (logP g2 h' b' (b' + L'.length) n ps' ++ refP p2 n b' v' L')) W1 (by simpa using hA)
                  have e1 := hA.blk (g := p2) (vs := [.int .i64 (n : Int), .int .i64 (b' : Int), v']) (t := 47) (by simp [refP])
                  have e2 := (hA.mem (c := entC v' L') (by simp [refP])).2.1
                  have e3 := hA.blk (g := g2) (vs := headV b' (b' + L'.length) h' n) (t := 65) (by simp [logP])
                  have e4 := hA.blk (g := h') (vs := flatE ps') (t := 39) (by simp [logP])
                  exact ⟨a2, a5, a6, by rw [cell_at e1]; rfl, by rw [cell_at e1]; rfl, e2, e3, e4, hA.oldAt (by rw [hRO.out]; simp)⟩)
                obtain ⟨_, c13, cBb, _, _, hrv, _, _, hFr⟩ := BX.out [blkC BK [.int .i64 0] 3] _ A8.out
                obtain ⟨va, vc, rfl, hvc⟩ := owns7_form hrv
                have BL2 : Hid (Okay wy.heap.size BASE) := hid (fun d hd => .inl (A8.out.lts d (by simp [hd])))
                have I1 : Hid (IJ (wy.heap.size + 2) L' BK BASE [] wy) := hid (by unfold IJ; rw [optH, if_pos rfl, List.nil_append]; exact A8.out)
                have HL10 : wy.heap[l]? = some (.loop r) := (KEEP.out wy hFr).same l _ hl hr rfl
                obtain ⟨xo, hxo⟩ : ∃ xo, Hid (xo = x) := ⟨_, hid rfl⟩
                clear hrv hFr
                gi_wp2
                rw [← hxo.out]
                refine range_goodN (P := Try.prog) (n := 18) (l₀ := l) (r₀ := r) HL10 (by omega) (gf := 40) (lb := #[.pointer (some ⟨Bb, 0, none⟩)]) rfl (enters_of Try.func40 (by kernel_rfl) rfl)
                  (encs := fun x : Nat × Ent => #[.int .i64 (x.1 : Int), x.2.V]) (Kp := KeepH (wy.heap.size + 2)) (Fresh := fun pre x W0 W1 => FreshI (wy.heap.size + 2) b' L' pre x W0 W1) (S := fun ys => ys = items b' L') (Sp := fun ys => ys <+: items b' L') (Nm := 64) ?iseq
                  (fun h k => h.then k) (fun W l o o' h1 h2 => KeepH.put W l o o' h1 h2) (fun _ => rfl)
                  (IJ (wy.heap.size + 2) L' BK BASE) (fun c pre W => False) (IJ2 (wy.heap.size + 2) b' L' BK BASE)
                  (IJ_own BL2.out) (fun c s A C row hs hg hr => hs) (fun pre => IJ2_own pre BL2.out) (fun pre x W0 W1 h => h.below) (fun pre x W0 W1 h hf => IJ_fresh h hf)
                  I1.out
                  (fun x a' W => ∃ By, W.heap[By]? = some (.cells x.2.cells.toArray 39 (0, 0)) ∧ a' = { tmps := #[Value.int IntKind.i64 ↑n, Value.slice fo fs.length fc, Value.slice (some { block := ga, off := oa }) acts.length cp, undef, undef, Value.pointer (some { block := w.heap.size, off := 0 }), Value.pointer (some { block := w.heap.size + 1, off := 0 }), Value.pointer (some { block := w1.heap.size, off := 0 }), Value.int IntKind.i64 0, Value.pointer (some { block := w2.heap.size, off := 0 }), Value.int IntKind.i64 0, undef, u12, Value.pointer (some { block := Bb + 1, off := 0 }), Value.pointer (some { block := B14, off := 0 }), Value.pointer (some { block := B15, off := 0 }), Value.pointer (some { block := BI, off := 0 }), Value.int IntKind.i64 (↑b + 1 + ↑k), Value.pointer (some { block := Bx, off := 0 }), Value.pointer (some { block := K, off := 0 }), Value.pointer (some ⟨BK, 0, none⟩), Value.int IntKind.i64 (x.1 : Int), Value.pointer (some ⟨By, 0, none⟩), Value.tuple #[Value.pointer (some { block := g2, off := 0 }), Value.int IntKind.i64 0], Value.int IntKind.i64 ↑n, Value.tuple #[Value.pointer (some { block := g2, off := 0 }), Value.int IntKind.i64 0], Value.pointer (some { block := g2, off := 0 }), Value.int IntKind.i64 0, Value.tuple #[Value.pointer (some { block := p2, off := 0 }), Value.int IntKind.i64 0], Value.int IntKind.i64 ↑n, Value.tuple #[Value.pointer (some { block := p2, off := 0 }), Value.int IntKind.i64 0], Value.pointer (some { block := p2, off := 0 }), Value.int IntKind.i64 0, Value.pointer (some { block := p2, off := 0 }), Value.bool false, undef, undef, undef, undef, undef, undef, Value.int IntKind.i64 0, Value.bool false, Value.bool false, Value.pointer (some { block := g2, off := 0 }), Value.bool false, Value.bool false, Value.slice fo fs.length fc, Value.int IntKind.i64 ↑fs.length, Value.int IntKind.i64 ↑i, Value.bool false, u51, u52, u53, u54, u55, u56, u57, u58, u59, u60, Value.pointer (some { block := g2, off := 0 }), Value.func (Fn.func 40) #[] #[Value.pointer (some { block := Bb, off := 0 })], Value.pointer (some { block := p2, off := 0 }), Value.pointer (some { block := p2, off := 0 }), Value.pointer (some { block := p2, off := 1 }), Value.int IntKind.i64 ↑b, Value.pointer (some { block := p2, off := 0 }), Value.pointer (some { block := q, off := 0 }), Value.pointer (some { block := q, off := 0 }), Value.pointer (some { block := q, off := 2 }), Value.slice (some { block := gw, off := 0 }) L.length t9c, Value.func (Fn.func 40) #[] #[Value.pointer (some { block := Bb, off := 0 })], Value.int IntKind.i64 (↑b + 1 + ↑k), xo.snd.V, u75, u76, u77, u78, u79, u80, u81, u82, u83, u84, u85, u86, u87, u88, u89, u90, u91, u92, u93, u94, u95, u96, u97, u98, u99, u100, u101, u102, u103, u104, u105, u106, u107, u108, u109, u110, u111, u112, u113, u114, u115, u116, u117, u118, u119, u120, u121, u122, u123, u124, u125, u126, u127, u128, u129, u130, u131, u132, u133, u134, u135, u136, u137, u138, u139, u140, u141, u142, Value.func (Fn.func 40) #[] #[Value.pointer (some ⟨Bb, 0, none⟩)], Value.int IntKind.i64 (x.1 : Int), x.2.V, u146, u147, u148, u149, u150, u151, u152, u153, u154, u155, u156, u157, u158, u159, u160, u161, u162, u163, u164, u165, u166, u167, u168, u169, u170, u171, u172, u173, u174, u175, u176, u177, u178, u179, u180, u181, u182, u183, u184, u185, u186, u187, u188, u189], defers := [] })
                  (fun a' x A C row hs hg hr => by
                    obtain ⟨By, h1, h2⟩ := hs
                    refine ⟨By, (hg.block By (Array.getElem?_eq_some_iff.1 h1).1 (fun e => ?_)).trans h1, h2⟩
                    obtain ⟨_, o, ho, hoc⟩ := hr By e.symm
                    rw [h1] at ho; cases ho; cases hoc)
                  ?iassign ?ibody ?idone ?istop
                case iseq =>
                  intro l2 J Jx W2 hbW hWs hJ hY h0
                  have hA1 := A8.out.later hbW
                  obtain ⟨_, _, eBb, _, _, _, eg, eh, _⟩ := BX.out [blkC BK [.int .i64 0] 3] W2 hA1
                  have e3 : W2.heap.size + 1 = wy.heap.size + 2 := by omega
                  exact all40 (l := l2) (m := 16) (Bb := Bb) (W := W2) J Jx (KeepH (wy.heap.size + 2)) (fun A B cs h k => by rw [e3] at h ⊢; exact k cs h) eBb eg eh hk3.out hJ (fun pre x W0 W1 h1 h2 h3 => hY pre x W0 W1 h1 (by rw [e3] at h2; exact h2) h3) h0
                case iassign =>
                  rintro l2 pre2 x2 W2 K2 ⟨hp2, hA⟩ hK2
                  have HA := hid hA
                  have HK2 := hid hK2
                  clear hA hK2
                  dsimp only
                  gi_wp2
                  refine HK2.out _ _ ⟨by simp, fun k o _ hk _ => (Below.heap_alloc _ _ _ (Array.getElem?_eq_some_iff.1 hk).1).trans hk⟩ (KeepH.of HA.out.1.2.1 ((HA.out.alloc _).1.2.1)) ⟨hp2, HA.out.alloc _⟩ ⟨W2.heap.size, heap_alloc_new W2 _, rfl⟩
                case istop =>
                  rintro c ys W2 hS hI
                  exact hI.elim
                case idone =>
                  rintro ys W2 hS hI
                  rw [hxo.out]
                  have hA1 : All (optH (wy.heap.size + 2) L' ys ++ (blkC BK [.int .i64 (ys.length : Int)] 3 :: BASE)) W2 := hI
                  have hyl : ys.length = L'.length := by rw [hS, items_len]
                  rw [hyl] at hA1
                  obtain ⟨c9, _, _, _, cv2, _⟩ := BX.out (optH (wy.heap.size + 2) L' ys ++ [blkC BK [.int .i64 (L'.length : Int)] 3]) W2 (by simpa using hA1)
                  have cK : W2.cell? ⟨BK, 0, none⟩ = some (.int .i64 (L'.length : Int)) := by
                    have e := hA1.blk (g := BK) (vs := [.int .i64 (L'.length : Int)]) (t := 3) (by simp)
                    rw [cell_at e]; rfl
                  have dd : ((L'.length : Int) != (L'.length : Int)) = false := by simp
                  have A9 : Hid (∀ nq, All (blkC (w10.heap.size + 3) (flatE L) 39 :: prt n ⟨g2, h', p2, b', .slice va L'.length vc, L', ps'⟩ BI k RO) (W2.drewN nq)) := hid (fun nq => by
                    have h1 : All BASE W2 := hA1.sublist ((List.sublist_cons_self _ _).trans (List.sublist_append_right _ _))
                    rw [hBASE.out] at h1
                    exact ((prt_in (t := ⟨g2, h', p2, b', .slice va L'.length vc, L', ps'⟩) h1).sublist (.cons_cons _ (prt_sub (List.sublist_cons_self _ _)))).drewN nq)
                  clear hA1 hI hS I1 A8
                  gi_wp2
                  refine quiet_round rfl (by kernel_rfl) (by kernel_rfl) (by kernel_rfl) ?_
                  repeat (first | gi_big_quiet_step (fail) | quiet_step_in (fail))
                  refine wpQuietIn_nil ?_
                  intro _ hw'
                  obtain ⟨nq2, hw''⟩ := hw'
                  subst hw''
                  gi_wp2_with fail
                  gi_meet
                  case rel => exact ⟨⟨g2, h', p2, b', .slice va L'.length vc, L', ps'⟩, _, rfl, rfl, rfl, hk3.out, hid (A9.out _)⟩
                case ibody =>
                  rintro l2 pre2 x2 a2 W2 hl2 ⟨r2, hr2⟩ ⟨hp2, hA⟩ ⟨By, hBy, rfl⟩ hlt2
                  obtain ⟨hx1, hkL⟩ := items_next hp2
                  have hxe : L'[pre2.length]? = some x2.2 := by
                    obtain ⟨tl, htl⟩ := hp2
                    have e1 : (items b' L')[pre2.length]? = some x2 := by rw [← htl]; simp
                    have e2 := items_at b' L' pre2.length _ (List.getElem?_eq_getElem hkL)
                    rw [e1] at e2
                    rw [List.getElem?_eq_getElem hkL]
                    have e3 := congrArg Prod.snd (Option.some.inj e2)
                    exact congrArg some e3.symm
                  obtain ⟨k2, hk2⟩ : ∃ k2, Hid (k2 = pre2.length) := ⟨_, hid rfl⟩
                  rw [← hk2.out] at hx1 hkL hxe hA hlt2
                  obtain ⟨c9, _, _, cv1, cv2, hrv, _⟩ := BX.out [blkC (wy.heap.size + 2) (flatE L') 39, blkC BK [.int .i64 (k2 : Int)] 3] W2 hA
                  have eK := hA.tail.1.2.1
                  have cK : W2.cell? ⟨BK, 0, none⟩ = some (.int .i64 (k2 : Int)) := by rw [cell_at eK]; rfl
                  have fK := free_at eK 0
                  obtain ⟨gv, hgv, lgv, hrx⟩ := owns7 hrv hxe
                  obtain ⟨z1, z2, z3, z4, z5, z6, z7⟩ := entAt_of hrx
                  obtain ⟨y1, y2, y3, y4, y5, y6, y7⟩ := entAt_of (range_one hBy)
                  simp only [Nat.zero_add] at y1 y2 y3 y4 y5 y6 y7
                  have EQ := fun w => eq39 x2.2 x2.2 w
                  simp only [decide_true] at EQ
                  unfold Ent.V at EQ
                  have htp : b' + L'.length ≤ 1099511627776 := hk3.out.top
                  have wb1 : IntKind.i64.wrap ((b' : Int) + 1) = (b' : Int) + 1 := by rw [IntKind.wrap_i64]; omega
                  have wb2 : IntKind.i64.wrap ((b' : Int) + 1 + (k2 : Int)) = (b' : Int) + 1 + (k2 : Int) := by rw [IntKind.wrap_i64]; omega
                  have wk2 : IntKind.i64.wrap ((k2 : Int) + 1) = (k2 : Int) + 1 := by rw [IntKind.wrap_i64]; omega
                  have dk1 : ¬ (L'.length : Int) ≤ (k2 : Int) := by omega
                  have dk2 : decide ((L'.length : Int) ≤ (k2 : Int)) = false := decide_eq_false dk1
                  have dk3 : decide (L'.length ≤ k2) = false := decide_eq_false (by omega)
                  have dk4 : k2 < L'.length := hkL
                  have dk5 : (k2 : Int) < (L'.length : Int) := by omega
                  have dx1 : (x2.1 : Int) = (b' : Int) + 1 + (k2 : Int) := by rw [hx1]; omega
                  have FINB : Hid (∀ nq, KeepsFrom wy.heap.size W2 ((W2.drewN nq).setCell ⟨BK, 0, none⟩ (.int .i64 ((k2 : Int) + 1))) ∧ KeepH (wy.heap.size + 2) W2 ((W2.drewN nq).setCell ⟨BK, 0, none⟩ (.int .i64 ((k2 : Int) + 1))) ∧ IJ (wy.heap.size + 2) L' BK BASE (pre2 ++ [x2]) ((W2.drewN nq).setCell ⟨BK, 0, none⟩ (.int .i64 ((k2 : Int) + 1)))) := hid (fun nq => by
                    have h1 := (hA.drewN nq).swap.setBlk 0 (.int .i64 ((k2 : Int) + 1))
                    have h2 := h1.swap
                    have eK2 := (hA.drewN nq).tail.1.2.1
                    have hkk : KeepsFrom wy.heap.size (W2.drewN nq) ((W2.drewN nq).setCell ⟨BK, 0, none⟩ (.int .i64 ((k2 : Int) + 1))) := keeps_grown (grownBy_setCell' (W2.drewN nq) _ _) (fun r e => by cases e; exact ⟨_, eK2, rfl⟩)
                    refine ⟨⟨hkk.size, hkk.same⟩, KeepH.of hA.1.2.1 h2.1.2.1, ?_⟩
                    unfold IJ
                    rw [optH, if_neg (by simp), List.length_append, List.length_singleton, ← hk2.out]
                    exact h2)
                  subst hgv
                  clear hA hrv hrx hBy hp2 hxe hx1 htp eK I1 A8
                  dsimp only
                  gi_wp2
                  refine quiet_round rfl (by kernel_rfl) (by kernel_rfl) (by kernel_rfl) ?_
                  repeat (first | gi_big_quiet_step (fail) | quiet_step_in (fail))
                  refine wpQuietIn_nil ?_
                  intro _ hw'
                  obtain ⟨nq2, hw''⟩ := hw'
                  subst hw''
                  clear y1 y2 y3 y4 y5 y6 y7 z1 z2 z3 z4 z5 z6 z7 EQ
                  gi_wp2
                  exact FINB.out _
            · have l1 : decide ((k : Int) < (acts.length : Int)) = false := decide_eq_false (by omega)
              have l2 : ¬ ((k : Int) < (acts.length : Int)) := by omega
              gi_wp2_with fail
              gi_meet
              case rel => exact ⟨⟨g2, h2, p2, b2, v2, L2, ps2⟩, _, rfl, rfl, rfl, hok2.out, A1d⟩
end Go.Proofs.Ythjoppgomopkfaa
