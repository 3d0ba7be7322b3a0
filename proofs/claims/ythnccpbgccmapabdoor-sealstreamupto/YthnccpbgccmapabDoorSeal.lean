import Derived.Test.YthnccpbgccmapabDoorForm
import Derived.Lib.BufferWrite
import Derived.Laws.IdiomCopy
namespace Go.Proofs.YthnccpbgccmapabDoor
open Go.RowKit
set_option linter.unusedVariables false
attribute [local go_sem ↓] Go.wp_at_zero Go.wp_at_succ

set_option maxHeartbeats 1600000 in
set_option maxRecDepth 1000000 in
theorem Seal_long {w : World} {s : Value} {l : List UInt8} (h : Reads w s l) (hl : 65536 < l.length) (hlen : l.length ≤ 140737488351232) :
    Calls Tryd.prog 17 #[s] w fun e w' => e = .returned (.tuple #[.slice none 0 0, .int .i64 20]) ∧ w' = w := by
  obtain ⟨ao, c, hf⟩ := h.form
  subst hf
  clear h
  go_enter Tryd.func17, Tryd.ntmps17
  go_wp2
  go_ret2
  exact ⟨rfl, rfl⟩

theorem made_zeros (n : Nat) : (madeCells #[Value.int IntKind.u8 0] n).toList = cellsB (zerosP n) := by
  rw [cellsB_zeros]
  simp only [madeCells, Array.toList_map, Array.toList_range]
  rw [List.map_congr_left (g := fun _ => Value.int .u8 0) (fun x _ => by rw [show x % (#[Value.int .u8 0] : Array Value).size = 0 from Nat.mod_one x]; rfl)]
  apply List.ext_getElem
  · simp
  · intro i h1 h2
    simp

/-- At a copy. -/
theorem wpList_copy {P : Program} {w : World} {ops : Array Oper} {rest : List Oper} {o : Oper} {a : Act} {Q : Exit → Act → World → Prop} (hgd : o.guard = none) (s x : Operand) (dT sT : TypeId)
    (ho : o.op = .call { callee := .builtin .copy, args := #[s, x], argTypes := #[dT, sT] })
    (h : ∃ r wz, (Builtin.copy_ #[dT, sT] o.type #[a.eval s, a.eval x]).run P w = .ok r wz ∧ wpList P ops Q rest (a.put o.dst r) wz) : wpList P ops Q (o :: rest) a w := by
  obtain ⟨r, wz, hrun, h⟩ := h
  refine wpList_plain hgd fun K hK => ?_
  unfold Oper.wp
  simp [execOp, ho, resolve, invoke, builtin, hrun, Result.andThen]
  exact hK _ _ h

theorem blk_of_owns {w : World} {base g : Nat} {bs : List UInt8} (h : w.ownsRow base 5 1 (.slice (some ⟨g, 0, none⟩) bs.length bs.length) bs.length (cellsB bs)) : Blk w g bs := by
  rcases h.2 with ⟨e, _⟩ | ⟨g', cap, cur, e, _, hgg, _, _, hcs, ht⟩
  · simp at e
  · simp only [Value.slice.injEq, Option.some.injEq, Addr.mk.injEq, and_true, true_and] at e
    obtain ⟨rfl, rfl⟩ := e
    have : cur.toList = cellsB bs := by
      rw [← ht, List.take_of_length_le]
      simp at hcs ⊢; omega
    unfold Blk
    rw [hgg, ← this]

/-- What a datagram's making knows of the memory. -/
structure Mk (w : World) (H L B : Nat) (a : Addr) (n : Nat) (bs : List UInt8) (w' : World) : Prop where
  tab : Tab w'
  blk : Blk w' H bs
  lead : w'.heap[L]? = some (.cells #[.slice (some ⟨H, 0, none⟩) 5 5, .slice (some ⟨H, 5, none⟩) 4 4] 62 (0, 0))
  body : w'.heap[B]? = some (.cells #[.slice (some a) n n, .slice (some ⟨H, 9 + n, none⟩) 4 4] 62 (0, 0))
  addr : 0 < n → a = ⟨H, 9, none⟩
  new : w.heap.size ≤ H ∧ H < L ∧ H < B ∧ 0 < H
  below : Below w.heap.size w w'

theorem Mk.turn {w : World} {H L B : Nat} {a : Addr} {n : Nat} {bs bs' : List UInt8} {w1 w2 : World} (h : Mk w H L B a n bs w1) (hb : Blk w2 H bs') (hf : Fr [H] w1 w2) : Mk w H L B a n bs' w2 := by
  have hn := h.new
  have hsz := h.below.size
  have hl := (Array.getElem?_eq_some_iff.1 h.lead).1
  have hbb := (Array.getElem?_eq_some_iff.1 h.body).1
  refine ⟨h.tab.kept hf.size (hf.block 0 h.tab.1 (by simp; omega)), hb, ?_, ?_, h.addr, h.new, ?_⟩
  · rw [hf.block L hl (by simp; omega)]; exact h.lead
  · rw [hf.block B hbb (by simp; omega)]; exact h.body
  · exact ⟨hf.os.trans h.below.os, hf.tape.trans h.below.tape, hf.output.trans h.below.output, Nat.le_trans hsz hf.size, fun k hk => (hf.block k (Nat.lt_of_lt_of_le hk hsz) (by simp; omega)).trans (h.below.block k hk)⟩

theorem Mk.set {w : World} {H L B : Nat} {a : Addr} {n : Nat} {bs t : List UInt8} {k x : Nat} {w1 : World} (h : Mk w H L B a n (laid bs 0 t k) w1) (hk : k < t.length) (hp : t.length ≤ bs.length) (hx : x = (t.getD k 0).toNat) : Mk w H L B a n (laid bs 0 t (k + 1)) (w1.setCell ⟨H, k, none⟩ (.int .u8 (x : Int))) := by
  have := h.blk.set hk (by omega) hx
  rw [Nat.zero_add] at this
  exact h.turn this ⟨rfl, rfl, rfl, by simp [World.setCell], fun i _ hi => Below.heap_setCell _ _ _ _ (by simpa using hi)⟩

theorem Mk.drew {w : World} {H L B : Nat} {a : Addr} {n : Nat} {bs : List UInt8} {w1 : World} (h : Mk w H L B a n bs w1) : Mk w H L B a n bs w1.drew :=
  h.turn (h.blk.kept rfl) ⟨rfl, rfl, rfl, Nat.le_refl _, fun _ _ _ => rfl⟩

theorem mk_start {w w1 w2 w3 : World} {H : Nat} {bs : List UInt8} {a1 a2 : Addr} {n : Nat} (hT : Tab w) (hH : H = w.heap.size) (hb1 : Below w.heap.size w w1) (hblk : Blk w1 H bs) (hb2 : Below w1.heap.size w1 w2) (hb3 : Below w2.heap.size w2 w3) (h1 : a1 = ⟨H, 0, none⟩) (h2 : 0 < n → a2 = ⟨H, 9, none⟩) :
    Mk w H w3.heap.size (w3.heap.size + 1) a2 n bs ((w3.alloc (.cells #[.slice (some a1) 5 5, .slice (some ⟨H, 5, none⟩) 4 4] 62)).alloc (.cells #[.slice (some a2) n n, .slice (some ⟨H, 9 + n, none⟩) 4 4] 62)) := by
  subst h1
  have b3 : Below w.heap.size w w3 := hb1.trans ((hb2.mono hb1.size).trans (hb3.mono (Nat.le_trans hb1.size hb2.size)))
  have b4 := (b3.alloc (o := .cells #[.slice (some ⟨H, 0, none⟩) 5 5, .slice (some ⟨H, 5, none⟩) 4 4] 62) b3.size)
  have b5 := (b4.alloc (o := .cells #[.slice (some a2) n n, .slice (some ⟨H, 9 + n, none⟩) 4 4] 62) b4.size)
  have hlt := hblk.lt
  have k3 : Blk w3 H bs := (hblk.below hb2).below hb3
  have s3 := Nat.lt_of_lt_of_le (Nat.lt_of_lt_of_le hlt hb2.size) hb3.size
  refine ⟨hT.below b5, ?_, ?_, ?_, h2, ⟨by omega, s3, by omega, by rw [hH]; exact hT.1⟩, b5⟩
  · exact (k3.kept (Below.heap_alloc _ _ _ s3)).kept (Below.heap_alloc _ _ _ (by simp; omega))
  · rw [Below.heap_alloc _ _ _ (by simp)]; exact heap_alloc_new _ _
  · have := heap_alloc_new (w3.alloc (.cells #[.slice (some ⟨H, 0, none⟩) 5 5, .slice (some ⟨H, 5, none⟩) 4 4] 62)) (.cells #[.slice (some a2) n n, .slice (some ⟨H, 9 + n, none⟩) 4 4] 62)
    simpa using this

theorem mk_mark {w : World} {H L B : Nat} {a : Addr} {n : Nat} {w1 : World} (h : Mk w H L B a n (zerosP (13 + n)) w1) {a1 : Addr} (ha : a1 = ⟨H, 0, none⟩) :
    ∃ wz, (Builtin.copy_ #[26, 9] 3 #[.slice (some a1) 5 5, .string { data := #[70, 76] }]).run Tryd.prog w1 = .ok (.int .i64 2) wz ∧ Mk w H L B a n (laid (zerosP (13 + n)) 0 (leadP n) 2) wz := by
  obtain ⟨i0, hi, hz0, hz1, hz2⟩ := info_parts Tryd.info5
  subst ha
  have hr := Lib.run_copy_row_string (P := Tryd.prog) w1 26 9 3 5 H 0 5 5 { data := #[70, 76] } _ 5 Tryd.underlying26 (by rw [hi]; simp [hz1]) h.blk (by decide) (by simp [cellsB_length, zerosP_length]; show 2 ≤ _; omega)
  refine ⟨_, hr, h.turn ?_ ⟨rfl, rfl, rfl, by simp, fun k _ hk => setRow_other w1 H k _ (by simpa using hk)⟩⟩
  unfold Blk
  rw [setRow_heap w1 H _ _ 5 (0, 0) h.blk]
  congr 2
  apply congrArg
  show (cellsB (zerosP (13 + n))).take 0 ++ [Value.int .u8 70, Value.int .u8 76] ++ (cellsB (zerosP (13 + n))).drop (0 + 2) = _
  rw [laid, cellsB_append, cellsB_append]
  simp [cellsB, leadP]

theorem mk_body {w : World} {H L B : Nat} {a : Addr} {n : Nat} {bs l : List UInt8} {w1 : World} {ao : Option Addr} {c : Nat} (h : Mk w H L B a n bs w1) (hr : Reads w (.slice ao l.length c) l) (hn : l.length = n) (hbs : bs.length = 13 + n) :
    ∃ wz, (Builtin.copy_ #[26, 26] 3 #[.slice (some a) n n, .slice ao l.length c]).run Tryd.prog w1 = .ok (.int .i64 (l.length : Int)) wz ∧ Mk w H L B a n (laid bs 9 l n) wz := by
  obtain ⟨i0, hi, hz0, hz1, hz2⟩ := info_parts Tryd.info5
  subst hn
  by_cases h0 : l.length = 0
  · have hl : l = [] := List.eq_nil_of_length_eq_zero h0
    subst hl
    refine ⟨w1, run_copy_none (P := Tryd.prog) w1 26 26 3 5 (some a) ao 0 0 0 c Tryd.underlying26 (by rw [hi]; simp [hz1]) rfl, ?_⟩
    show Mk w H L B a 0 (laid bs 9 [] 0) w1
    rw [laid_zero]
    exact h
  · have ha := h.addr (by omega)
    subst ha
    have hblk : w1.heap[H]? = some (.cells (cellsB (bs.take 9) ++ cellsB (bs.drop 9)).toArray 5 (0, 0)) := by
      rw [← cellsB_append, List.take_append_drop]; exact h.blk
    obtain ⟨wz, hrun, hrow, hfr⟩ := copy_runs H 9 l.length l.length l ao c (cellsB (bs.take 9)) (cellsB (bs.drop 9)) (hr.below h.below) hblk (by rw [cellsB_length]; simp; omega) (Nat.le_refl _) (by rw [cellsB_length]; simp; omega)
    refine ⟨wz, hrun, h.turn ?_ hfr⟩
    unfold Blk
    rw [hrow, laid, cellsB_append, cellsB_append, List.take_length]
    congr 4
    simp [cellsB]

set_option maxHeartbeats 3200000 in
set_option maxRecDepth 1000000 in
theorem Seal_fits {w : World} {s : Value} {l : List UInt8} (hT : Tab w) (h : Reads w s l) (hl : l.length ≤ 65536) :
    Calls Tryd.prog 17 #[s] w fun e w' => e = .returned (.tuple #[.slice (some ⟨w.heap.size, 0, none⟩) (l.length + 13) (l.length + 13), .int .i64 0]) ∧ Blk w' w.heap.size (sealP l) ∧ Below w.heap.size w w' := by
  obtain ⟨i0, hi, hz0, hz1, hz2⟩ := info_parts Tryd.info5
  have HH := hid h
  have HT := hid hT
  have hw0 := hT.1
  obtain ⟨ao, c, hf⟩ := h.form
  subst hf
  clear h hT
  go_enter Tryd.func17, Tryd.ntmps17
  go_wp2_with (at_make; refine wpList_make_full _ rfl (.tmp 14) (.tmp 14) 26 rfl w.heap.size 5 i0 (.int .u8 0) 1 Tryd.underlying26 hi hz0 hz1 .i64 .i64 _ _ (13 + l.length) rfl rfl (by simp) (by simp) (by rw [hz2]; omega) (by unfold maxLen; omega) (Nat.le_refl _) ?_)
  intro w1 hown hgr
  have hb1 : Below w.heap.size w w1 := (Below.refl _ _).grown hgr (Nat.le_refl _) (fun k hk => by cases hk)
  have K1 := hid (show Blk w1 w.heap.size (zerosP (13 + l.length)) from blk_of_owns (base := w.heap.size) (by rw [zerosP_length, ← made_zeros]; exact hown))
  have B1 := hid hb1
  obtain ⟨H, hH⟩ : ∃ H, H = w.heap.size := ⟨_, rfl⟩
  rw [← hH] at K1 ⊢
  have HHH := hid hH
  clear hown hgr hb1 hH
  go_wp2_with fail
  refine (cut_any H 0 (13 + l.length) (13 + l.length) 0 5 (by omega) (Nat.le_refl _) (by omega)).mono ?_
  rintro e w2 ⟨a1, rfl, ha1, hb2⟩
  have B2 := hid hb2
  have A1 := hid (ha1 (by omega))
  clear hb2 ha1
  go_wp2_with fail
  refine (cut_any H 0 (13 + l.length) (13 + l.length) 9 l.length (by omega) (Nat.le_refl _) (by omega)).mono ?_
  rintro e w3 ⟨a2, rfl, ha2, hb3⟩
  have B3 := hid hb3
  have A2 := hid ha2
  clear hb3 ha2
  have M0 := hid (mk_start HT.out HHH.out B1.out K1.out B2.out B3.out A1.out A2.out)
  go_wp2_with (refine wpList_copy rfl _ _ _ _ rfl ?_)
  generalize (w3.alloc (.cells #[.slice (some a1) 5 5, .slice (some ⟨H, 5, none⟩) 4 4] 62)).alloc (.cells #[.slice (some a2) l.length l.length, .slice (some ⟨H, 9 + l.length, none⟩) 4 4] 62) = w4 at *
  generalize w3.heap.size = L at *
  obtain ⟨w5, hrun, hM⟩ := mk_mark M0.out A1.out
  refine ⟨_, w5, hrun, ?_⟩
  have M1 := hid hM
  clear hrun hM M0 B1 B2 B3 K1 HT
  go_wp2
  go_loopw [8] (fun iv wr => ∃ j : Nat, j ≤ 3 ∧ iv = .int .i64 ((j + 2 : Nat) : Int) ∧ Hid (Mk w H L (L + 1) a2 l.length (laid (zerosP (13 + l.length)) 0 (leadP l.length) (j + 2)) wr)) (fun iv _ => 5 - (intOf iv).toNat)
  case atStart => exact ⟨0, by omega, rfl, M1⟩
  case round =>
    obtain ⟨j, hj, rfl, hrel⟩ := hrel
    by_cases hlt : j < 3
    · have q0 : wr.cell? ⟨L, 0, none⟩ = some (.slice (some ⟨H, 0, none⟩) 5 5) := by rw [cell_at hrel.out.lead]; rfl
      have q1 := hrel.out.blk.cell (j + 2) (by rw [laid_length _ _ _ _ (by rw [leadP_length]; omega) (by rw [zerosP_length]; omega), zerosP_length]; omega)
      have q2 := hrel.out.blk.free (j + 2)
      have q3 := hid (hrel.out.drew.set (x := (byteN l.length j).toNat) (by rw [leadP_length]; omega) (by rw [leadP_length, zerosP_length]; omega) (by
        have : j = 0 ∨ j = 1 ∨ j = 2 := by omega
        rcases this with rfl | rfl | rfl <;> rfl))
      clear hrel M1
      have hw1 : IntKind.u32.wrap (l.length : Int) = (l.length : Int) := by rw [IntKind.wrap_u32']; omega
      have hw2 : IntKind.i64.wrap (j : Int) = (j : Int) := by simp [IntKind.wrap, IntKind.bits, IntKind.signed]; omega
      go_wp2
      go_region_with (go_at_call 31; refine (byteOf_any l.length j (by omega) (by omega)).mono ?_; rintro e w6 ⟨rfl, rfl⟩)
      all_goals go_wp2
      all_goals go_roundw
      all_goals first
        | (simp [intOf]; omega)
        | exact ⟨j + 1, by omega, by go_num, q3.out⟩
    · have hj3 : j = 3 := by omega
      have M2 := hid (show Mk w H L (L + 1) a2 l.length (leadP l.length ++ (zerosP 4 ++ (zerosP l.length ++ zerosP 4))) wr by
        have := hrel.out
        rw [hj3, zeros_split, laid_whole [] (zerosP 5) _ (leadP l.length) (by rw [leadP_length, zerosP_length]) 0 (3 + 2) rfl rfl] at this
        exact this)
      have q0 : wr.cell? ⟨L + 1, 0, none⟩ = some (.slice (some a2) l.length l.length) := by rw [cell_at M2.out.body]; rfl
      clear hrel M1
      clear hj3
      go_wp2_with (refine wpList_copy rfl _ _ _ _ rfl ?_)
      obtain ⟨w6, hrun, hM⟩ := mk_body M2.out HH.out rfl (by simp [leadP_length, zerosP_length]; omega)
      refine ⟨_, w6, hrun, ?_⟩
      have M3 := hid (show Mk w H L (L + 1) a2 l.length (leadP l.length ++ (zerosP 4 ++ (l ++ zerosP 4))) w6 by
        have := hM
        rw [← List.append_assoc, laid_whole (leadP l.length ++ zerosP 4) (zerosP l.length) (zerosP 4) l (by rw [zerosP_length]) 9 l.length (by simp [leadP_length, zerosP_length]) rfl, List.append_assoc] at this
        exact this)
      have q1 : w6.cell? ⟨L, 0, none⟩ = some (.slice (some ⟨H, 0, none⟩) 5 5) := by rw [cell_at M3.out.lead]; rfl
      have q2 : w6.cell? ⟨L, 1, none⟩ = some (.slice (some ⟨H, 5, none⟩) 4 4) := by rw [cell_at M3.out.lead]; rfl
      clear hrun hM M2 q0
      go_wp2_with fail
      refine (sign_any (l := leadP l.length) M3.out.tab (by have := M3.out.blk.reads 0 5 5 (by simp [leadP_length]) (Nat.le_refl _); exact this) M3.out.blk (p := 5) (by simp [leadP_length, zerosP_length]; omega) M3.out.new.2.2.2 (by rw [leadP_length]; omega)).mono ?_
      rintro e w7 ⟨rfl, hb7, hf7⟩
      have M4 := hid (show Mk w H L (L + 1) a2 l.length (leadP l.length ++ (sumB (sumN (leadP l.length)) ++ (l ++ zerosP 4))) w7 by
        have := M3.out.turn hb7 hf7
        rw [laid_whole (leadP l.length) (zerosP 4) _ (sumB (sumN (leadP l.length))) (by rw [zerosP_length, sumB_length]) 5 4 rfl rfl] at this
        exact this)
      have q3 : w7.cell? ⟨L + 1, 0, none⟩ = some (.slice (some a2) l.length l.length) := by rw [cell_at M4.out.body]; rfl
      have q4 : w7.cell? ⟨L + 1, 1, none⟩ = some (.slice (some ⟨H, 9 + l.length, none⟩) 4 4) := by rw [cell_at M4.out.body]; rfl
      clear hb7 hf7 M3 q1 q2
      go_wp2_with fail
      refine (sign_any (l := l) M4.out.tab (by
        by_cases h0 : l.length = 0
        · exact ⟨some a2, l.length, rfl, Nat.le_refl _, Or.inl ⟨List.eq_nil_of_length_eq_zero h0, fun h => by cases h⟩⟩
        · rw [M4.out.addr (by omega)]
          have := M4.out.blk.reads 9 l.length l.length (by simp [leadP_length, sumB_length]; omega) (Nat.le_refl _)
          simpa [leadP, sumB] using this) M4.out.blk (p := 9 + l.length) (by simp [leadP_length, sumB_length, zerosP_length]; omega) M4.out.new.2.2.2 (by omega)).mono ?_
      rintro e w8 ⟨rfl, hb8, hf8⟩
      have M5 := hid (show Mk w H L (L + 1) a2 l.length (sealP l) w8 by
        have := M4.out.turn hb8 hf8
        have e : leadP l.length ++ (sumB (sumN (leadP l.length)) ++ (l ++ zerosP 4)) = (leadP l.length ++ sumB (sumN (leadP l.length)) ++ l) ++ (zerosP 4 ++ []) := by simp
        rw [e, laid_whole (leadP l.length ++ sumB (sumN (leadP l.length)) ++ l) (zerosP 4) [] (sumB (sumN l)) (by rw [zerosP_length, sumB_length]) (9 + l.length) 4 (by simp [leadP_length, sumB_length]; omega) rfl] at this
        simpa [sealP] using this)
      clear hb8 hf8 M4 q3 q4
      go_wp2
      go_ret2
      have e : 13 + l.length = l.length + 13 := by omega
      exact ⟨by rw [HHH.out, e]; rfl, by rw [← HHH.out]; exact M5.out.blk, M5.out.below⟩
end Go.Proofs.YthnccpbgccmapabDoor
