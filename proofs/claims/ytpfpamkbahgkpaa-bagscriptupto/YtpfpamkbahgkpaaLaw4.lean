import Derived.Test.YtpfpamkbahgkpaaLaw3
import Derived.Lib.SlBytesConst
namespace Go.Proofs.Ytpfpamkbahgkpaa
open Go.RowKit
set_option linter.unusedVariables false

theorem ab_reads {w : World} {fr : Nat × Nat} : Reads (w.alloc (.cells #[.int .u8 97, .int .u8 98] 5 fr)) (.slice (some ⟨w.heap.size, 0, none⟩) 2 2) [97, 98] := by
  refine ⟨_, 2, rfl, by simp, Or.inr ⟨w.heap.size, 0, rfl, by simp, fun j u hu => ?_⟩⟩
  rw [cell_at (heap_alloc_new w _), Nat.zero_add]
  have : (cellsB [97, 98]).toArray = #[.int .u8 97, .int .u8 98] := rfl
  rw [← this, List.getElem?_toArray]
  exact hu

theorem shown_lay (b : Nat) : (AB.mk 1 0 []).add 0 8 [97, 98] = AB.mk 1 1 [⟨1, 0, 8, 0, 0, [97, 98]⟩] := by
  have h : (AB.mk 1 0 []).addE 0 8 = 0 := by decide +kernel
  unfold AB.add
  rw [if_pos h]
  rfl
theorem shown_e : (AB.mk 1 0 []).addE 0 8 = 0 := by decide +kernel
theorem shown_d : (AB.mk 1 1 [⟨1, 0, 8, 0, 0, [97, 98]⟩]).dupE 0 = 155 ∧ (AB.mk 1 1 [⟨1, 0, 8, 0, 0, [97, 98]⟩]).dup 0 = AB.mk 1 1 [⟨1, 0, 8, 0, 0, [97, 98]⟩] ∧ (AB.mk 1 1 [⟨1, 0, 8, 0, 0, [97, 98]⟩]).at 0 = ⟨1, 0, 8, 0, 0, [97, 98]⟩ := by
  refine ⟨by decide +kernel, rfl, by decide +kernel⟩

set_option maxHeartbeats 1600000 in
set_option maxRecDepth 1000000 in
theorem shown_any {cs : List Comp} {w : World} (h : All cs w) : Calls Try.prog 8 #[] w fun e w' => e = .returned (.bool true) ∧ All cs w' := by
  have C0 := hid (New_no (r := 0) (w := w) (by omega))
  have C1 := hid (New_ok (r := 1) h (by omega) (by omega))
  have kc := fun (w : World) (C : Array Value) (n c : Nat) => Lib.run_convert_bytes_const (P := Try.prog) w 31 5 C n c Try.underlying31 Try.underlying5
  clear h
  go_enter Try.func8, Try.ntmps8
  go_wp2_with fail
  refine C0.out.mono ?_
  rintro e w0 ⟨rfl, rfl⟩
  go_wp2_with fail
  refine C1.out.mono ?_
  rintro e w1 ⟨b, rfl, A1⟩
  have A1 := hid (A1.pool0)
  clear C0 C1
  go_wp2_with fail
  refine (Add_any (B := Bg.mk b 1 0 (.slice none 0 0) []) (l := [97, 98]) (A1.out.alloc _) (fun p hp => by cases hp) (show (Bg.mk b 1 0 (.slice none 0 0) []).ab.Ok 0 from AB.Ok.new (r := 1) (by decide) (by decide)) (by omega) ab_reads (by simp)).mono ?_
  rintro e w2 ⟨rfl, T⟩
  have e1 : (Bg.mk b 1 0 (.slice none 0 0) []).ab.addE 0 8 = 0 := shown_e
  rw [e1]
  obtain ⟨P, B, hb, hab, hin, -, A2⟩ := T
  have hab' : B.ab = AB.mk 1 1 [⟨1, 0, 8, 0, 0, [97, 98]⟩] := hab.trans (shown_lay b)
  have ho : B.ab.Ok 1 := by rw [hab]; exact (AB.Ok.new (r := 1) (by decide) (by decide)).add 0 8 [97, 98]
  simp only at hb
  subst hb
  have C2 := hid (Dup_any (j := 0) A2 hin ho (by omega))
  rw [hab', shown_d.1, shown_d.2.1] at C2
  clear e1 A1 A2 hab ho
  go_wp2_with fail
  refine C2.out.mono ?_
  rintro e w3 ⟨rfl, P3, B3, hb3, hab3, hin3, -, A3⟩
  have hl3 : B3.ps.length = 1 := by rw [← B3.ab_len, hab3]; rfl
  have C3 := hid (At_any (j := 0) A3 hin3 (by omega))
  rw [hl3, hab3, shown_d.2.2, show B3.V = B.V by unfold Bg.V; rw [hb3]] at C3
  clear C2 hl3 A3
  go_wp2_with fail
  refine C3.out.mono ?_
  rintro e w4 ⟨p, rfl, hap, A4⟩
  have hh : hasB 0 1 = true := rfl
  rw [hh]
  have A4 := hid A4
  have hq : Hid (p.ap = (⟨1, 0, 8, 0, 0, some ⟨w4.heap.size + 1, 0, none⟩, 2, [97, 98]⟩ : Pk).ap) := hid hap
  have hbs : Hid (p.bs = [97, 98]) := hid (congrArg AP.bs hap)
  have e3 : p.bs.length = 2 := by rw [hbs.out]; rfl
  have kc2 : ∀ o C n c, (convert 31 31 (.slice (some ⟨w4.heap.size + 1, 0, none⟩) n c)).run Try.prog ((w4.alloc o).alloc (.cells C 5)) = .ok (.slice (some ⟨w4.heap.size + 1, 0, none⟩) n c) ((w4.alloc o).alloc (.cells C 5 (C.size, C.size + 1))) := fun o C n c => by
    have := kc (w4.alloc o) C n c
    simpa using this
  have S : Hid (∀ o1 fr, Calls Try.prog 30 #[.agg #[.int .i64 p.n, .int .i64 p.f, .int .i64 p.t, .int .i64 p.a, .int .i64 p.u, .slice p.ao 2 p.c], .agg #[.int .i64 1, .int .i64 0, .int .i64 8, .int .i64 0, .int .i64 0, .slice (some ⟨w4.heap.size + 1, 0, none⟩) 2 2]] ((w4.alloc o1).alloc (.cells #[.int .u8 97, .int .u8 98] 5 fr)) (fun e w' => e = .returned (.bool true) ∧ Below ((w4.alloc o1).alloc (.cells #[.int .u8 97, .int .u8 98] 5 fr)).heap.size ((w4.alloc o1).alloc (.cells #[.int .u8 97, .int .u8 98] 5 fr)) w')) := hid (fun o1 fr => by
    have R1 := ((A4.out.byReads (v := p.D) (l := p.bs) (by simp)).below (ba w4 o1)).below (ba (w4.alloc o1) (.cells #[.int .u8 97, .int .u8 98] 5 fr))
    have R2 : Reads ((w4.alloc o1).alloc (.cells #[.int .u8 97, .int .u8 98] 5 fr)) (.slice (some ⟨w4.heap.size + 1, 0, none⟩) 2 2) [97, 98] := by
      have := ab_reads (w := w4.alloc o1) (fr := fr)
      simpa using this
    have := samePacket_true (p := p) (q := ⟨1, 0, 8, 0, 0, some ⟨w4.heap.size + 1, 0, none⟩, 2, [97, 98]⟩) hq.out R1 R2 (by rw [e3]; omega)
    have e4 : p.V = .agg #[.int .i64 p.n, .int .i64 p.f, .int .i64 p.t, .int .i64 p.a, .int .i64 p.u, .slice p.ao 2 p.c] := by unfold Pk.V; rw [e3]
    rw [e4] at this
    exact this)
  clear C3 hh hap
  go_wp2_with (go_at_call 30; refine (S.out _ _).mono ?_; rintro e w6 ⟨rfl, hb6⟩)
  go_ret
  refine ⟨rfl, ?_⟩
  have A5 := ((A4.out.alloc _).alloc _).later hb6
  exact A5.tail.tail.tail.tail
end Go.Proofs.Ytpfpamkbahgkpaa
