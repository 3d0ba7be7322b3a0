import Derived.Test.YtdhkdniddjnigaaGreatDoorRd5
namespace Go.Proofs.YtdhkdniddjnigaaGreatDoor
open Go.RowKit
set_option linter.unusedVariables false

set_option maxHeartbeats 800000 in
set_option maxRecDepth 1000000 in
theorem digit_high {B : Nat} {o f d : Nat} {x : List UInt8} {ws : Ws} {cs : List Comp} {w : World} (h : RdAt B (.high o x f) ws cs w) (hd : d < 16) :
    Calls Tryz.prog 189 #[ptr B, .int .u8 (d : Int)] w (StepPost B cs (.go (.low o x f d) ws)) := by
  obtain ⟨st, wv, dv, op, es, cd, wd, ⟨rfl, rfl, rfl, rfl⟩, A⟩ := h
  obtain ⟨⟨s0, s1, s2, s3, s4, s5⟩, hf⟩ := rd_cells A
  have f0 := hf 0
  have f5 := hf 5
  have A2 := hid ((A.setBlk 0 (.int .i64 6)).setBlk 5 (.int .u8 ((d : Int) * 16)))
  clear A hf
  go_enter Tryz.func189, Tryz.ntmps189
  go_wp2
  go_ret
  exact ⟨rfl, _, _, _, _, _, _, _, ⟨rfl, rfl, rfl, rfl, rfl, hd⟩, A2.out⟩

theorem or_hex (g d : Nat) (hg : g < 16) (hd : d < 16) : bits BinOp.or IntKind.u8 ((g : Int) * 16) (d : Int) = ((16 * g + d : Nat) : Int) := by
  have h : ∀ a b : Fin 16, bits BinOp.or IntKind.u8 ((a.val : Int) * 16) (b.val : Int) = ((16 * a.val + b.val : Nat) : Int) := by decide +kernel
  exact h ⟨g, hg⟩ ⟨d, hd⟩

set_option maxHeartbeats 800000 in
set_option maxRecDepth 1000000 in
theorem digit_low {B : Nat} {o f g d : Nat} {x : List UInt8} {ws : Ws} {cs : List Comp} {w : World} (h : RdAt B (.low o x f g) ws cs w) (hl : x.length + 1 ≤ 140737488355328) (hd : d < 16) :
    Calls Tryz.prog 189 #[ptr B, .int .u8 (d : Int)] w (StepPost B cs (if prnN (16 * g + d) = true then .bad f else .go (.quote o (x ++ [UInt8.ofNat (16 * g + d)])) ws)) := by
  obtain ⟨st, wv, dv, op, es, cd, wd, ⟨rfl, rfl, rfl, rfl, rfl, hg⟩, A⟩ := h
  obtain ⟨⟨s0, s1, s2, s3, s4, s5⟩, hf⟩ := rd_cells A
  have T := hid (take_any (b := UInt8.ofNat (16 * g + d)) A hl)
  have eN : (UInt8.ofNat (16 * g + d)).toNat = 16 * g + d := by simp; omega
  rw [eN] at T
  have P : Hid (Calls Tryz.prog 206 #[.int .u8 ((16 * g + d : Nat) : Int)] w fun e w' => e = .returned (.bool (prnN (16 * g + d))) ∧ w' = w) := by
    rw [← prnI_nat]
    exact prn_int _ _
  have D := hid A.tail.tail.tail
  have ho := or_hex g d hg hd
  clear A hf hg eN
  generalize 16 * g + d = N at *
  cases hp : prnN N with
  | true =>
    rw [if_pos rfl]
    go_enter Tryz.func189, Tryz.ntmps189
    go_wp2_with (go_at_call 206; refine P.out.mono ?_; rintro e w1 ⟨rfl, rfl⟩; rw [hp])
    go_ret
    exact ⟨rfl, D.out⟩
  | false =>
    rw [if_neg (by simp)]
    go_enter Tryz.func189, Tryz.ntmps189
    go_wp2_with (first | (go_at_call 206; refine P.out.mono ?_; rintro e w1 ⟨rfl, rfl⟩; rw [hp]) | (go_at_call 208; refine T.out.mono ?_; rintro e w1 ⟨rfl, dv', A1⟩; have A2 := hid A1; clear A1))
    go_ret
    exact ⟨rfl, _, _, _, _, _, _, _, ⟨rfl, rfl, rfl⟩, A2.out⟩

/-- IndexByte in the digits. -/
theorem idxHex (b : UInt8) : Lib.indexByte [48, 49, 50, 51, 52, 53, 54, 55, 56, 57, 97, 98, 99, 100, 101, 102] b = match hexN b.toNat with | none => -1 | some d => (d : Int) := by
  have h : ∀ n : Fin 256, Lib.indexByte [48, 49, 50, 51, 52, 53, 54, 55, 56, 57, 97, 98, 99, 100, 101, 102] (UInt8.ofNat n.val) = match hexN n.val with | none => -1 | some d => (d : Int) := by decide +kernel
  have := h ⟨b.toNat, by have := b.toNat_lt; omega⟩
  simpa using this
theorem index_any (b : UInt8) (w : World) : Calls Tryz.prog 188 #[.string ⟨#[48, 49, 50, 51, 52, 53, 54, 55, 56, 57, 97, 98, 99, 100, 101, 102]⟩, .int .u8 (b.toNat : Int)] w fun e w' => e = .returned (.int .i64 (match hexN b.toNat with | none => -1 | some d => (d : Int))) ∧ w' = w := by
  have := Any.strings_IndexByte Tryz.lays137 ⟨#[48, 49, 50, 51, 52, 53, 54, 55, 56, 57, 97, 98, 99, 100, 101, 102]⟩ (b.toNat : Int) w
  rw [← idxHex b]
  have e : ((b.toNat : Int).toNat.toUInt8) = b := by simp
  rw [e] at this
  exact this

set_option maxHeartbeats 800000 in
set_option maxRecDepth 1000000 in
/-- A byte within quotes. -/
theorem quoted_any {B : Nat} {s : St} {ws : Ws} {k : Nat} {b : UInt8} {cs : List Comp} {w : World} (h : RdAt B s ws cs w) (hs : s ≠ .ahead ∧ (∀ x, s ≠ .bare x) ∧ s ≠ .closed) (hl : s.held ≤ 140737488355328) (hl2 : ws.length + 1 ≤ 1000000000000) :
    Calls Tryz.prog 160 #[ptr B, .int .i64 (k : Int), .int .u8 (b.toNat : Int)] w (StepPost B cs (stepW s ws k b)) := by
  cases s with
  | ahead => exact absurd rfl hs.1
  | bare x => exact absurd rfl (hs.2.1 x)
  | closed => exact absurd rfl hs.2.2
  | quote o x =>
    have C := hid (plain_any (k := k) (b := b) h hl hl2)
    obtain ⟨st, wv, dv, op, es, cd, wd, ⟨rfl, rfl, rfl⟩, A⟩ := h
    obtain ⟨⟨s0, s1, s2, s3, s4, s5⟩, hf⟩ := rd_cells A
    clear A hf hs
    generalize hO : stepW (St.quote o wd) ws k b = O at *
    clear hO
    generalize (b.toNat : Int) = bi at *
    go_enter Tryz.func160, Tryz.ntmps160
    go_wp2_with (go_at_call 186; refine C.out.mono ?_; intro e w1 hp; have HP := hid hp; clear hp; obtain ⟨i, rfl⟩ : ∃ i, e = .returned (.int .i64 i) := by (cases O with | go s ws => exact ⟨_, HP.out.1⟩ | bad j => exact ⟨_, HP.out.1⟩))
    go_ret
    exact HP.out
  | esc o x f =>
    have C := hid (escaped_any (k := k) (b := b) h hl)
    obtain ⟨st, wv, dv, op, es, cd, wd, ⟨rfl, rfl, rfl, rfl⟩, A⟩ := h
    obtain ⟨⟨s0, s1, s2, s3, s4, s5⟩, hf⟩ := rd_cells A
    clear A hf hs
    generalize hO : stepW (St.esc o wd f) ws k b = O at *
    clear hO
    generalize (b.toNat : Int) = bi at *
    go_enter Tryz.func160, Tryz.ntmps160
    go_wp2_with (go_at_call 187; refine C.out.mono ?_; intro e w1 hp; have HP := hid hp; clear hp; obtain ⟨i, rfl⟩ : ∃ i, e = .returned (.int .i64 i) := by (cases O with | go s ws => exact ⟨_, HP.out.1⟩ | bad j => exact ⟨_, HP.out.1⟩))
    go_ret
    exact HP.out
  | high o x f =>
    have I := hid (index_any b w)
    have C := fun d hd => hid (digit_high (d := d) h hd)
    have D := hid h.drop
    obtain ⟨st, wv, dv, op, es, cd, wd, ⟨rfl, rfl, rfl, rfl⟩, A⟩ := h
    obtain ⟨⟨s0, s1, s2, s3, s4, s5⟩, hf⟩ := rd_cells A
    clear A hf hs
    cases hx : hexN b.toNat with
    | none =>
      have e1 : stepW (.high o wd f) ws k b = .bad k := by simp [stepW, hx]
      rw [e1]
      rw [hx] at I
      clear e1 hx C
      generalize (b.toNat : Int) = bi at *
      go_enter Tryz.func160, Tryz.ntmps160
      go_wp2_with (go_at_call 188; refine I.out.mono ?_; rintro e w1 ⟨rfl, rfl⟩; simp only)
      go_ret
      exact ⟨rfl, D.out⟩
    | some d =>
      have e1 : stepW (.high o wd f) ws k b = .go (.low o wd f d) ws := by simp [stepW, hx]
      rw [e1]
      rw [hx] at I
      have hd := hexN_lt hx
      have C := C d hd
      clear e1 hx
      have hw : IntKind.u8.wrap (d : Int) = d := by
        have : ∀ a : Fin 16, IntKind.u8.wrap (a.val : Int) = a.val := by decide +kernel
        exact this ⟨d, hd⟩
      generalize hO : Out.go (.low o wd f d) ws = O at *
      clear hO
      generalize (b.toNat : Int) = bi at *
      go_enter Tryz.func160, Tryz.ntmps160
      go_wp2_with (first | (go_at_call 188; refine I.out.mono ?_; rintro e w1 ⟨rfl, rfl⟩; simp only) | (go_at_call 189; refine C.out.mono ?_; intro e w1 hp; have HP := hid hp; clear hp; obtain ⟨i, rfl⟩ : ∃ i, e = .returned (.int .i64 i) := by (cases O with | go s ws => exact ⟨_, HP.out.1⟩ | bad j => exact ⟨_, HP.out.1⟩)))
      go_ret
      exact HP.out
  | low o x f g =>
    have I := hid (index_any b w)
    have C := fun d hd => hid (digit_low (d := d) h hl hd)
    have D := hid h.drop
    obtain ⟨st, wv, dv, op, es, cd, wd, ⟨rfl, rfl, rfl, rfl, rfl, hg⟩, A⟩ := h
    obtain ⟨⟨s0, s1, s2, s3, s4, s5⟩, hf⟩ := rd_cells A
    clear A hf hs hg
    cases hx : hexN b.toNat with
    | none =>
      have e1 : stepW (.low o wd f g) ws k b = .bad k := by simp [stepW, hx]
      rw [e1]
      rw [hx] at I
      clear e1 hx C
      generalize (b.toNat : Int) = bi at *
      go_enter Tryz.func160, Tryz.ntmps160
      go_wp2_with (go_at_call 188; refine I.out.mono ?_; rintro e w1 ⟨rfl, rfl⟩; simp only)
      go_ret
      exact ⟨rfl, D.out⟩
    | some d =>
      have e1 : stepW (.low o wd f g) ws k b = (if prnN (16 * g + d) = true then .bad f else .go (.quote o (wd ++ [UInt8.ofNat (16 * g + d)])) ws) := by simp [stepW, hx]
      rw [e1]
      rw [hx] at I
      have hd := hexN_lt hx
      have C := C d hd
      clear e1 hx
      have hw : IntKind.u8.wrap (d : Int) = d := by
        have : ∀ a : Fin 16, IntKind.u8.wrap (a.val : Int) = a.val := by decide +kernel
        exact this ⟨d, hd⟩
      generalize hO : (if prnN (16 * g + d) = true then Out.bad f else .go (.quote o (wd ++ [UInt8.ofNat (16 * g + d)])) ws) = O at *
      clear hO
      generalize (b.toNat : Int) = bi at *
      go_enter Tryz.func160, Tryz.ntmps160
      go_wp2_with (first | (go_at_call 188; refine I.out.mono ?_; rintro e w1 ⟨rfl, rfl⟩; simp only) | (go_at_call 189; refine C.out.mono ?_; intro e w1 hp; have HP := hid hp; clear hp; obtain ⟨i, rfl⟩ : ∃ i, e = .returned (.int .i64 i) := by (cases O with | go s ws => exact ⟨_, HP.out.1⟩ | bad j => exact ⟨_, HP.out.1⟩)))
      go_ret
      exact HP.out
end Go.Proofs.YtdhkdniddjnigaaGreatDoor
