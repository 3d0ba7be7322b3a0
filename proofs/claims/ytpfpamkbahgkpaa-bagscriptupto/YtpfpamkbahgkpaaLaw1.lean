import Derived.Test.YtpfpamkbahgkpaaBg14
namespace Go.Proofs.Ytpfpamkbahgkpaa
open Go.RowKit
set_option linter.unusedVariables false

theorem alike_self (l : List UInt8) : alike l l = true := decide_eq_true rfl
theorem Pk.of_ap {p q : Pk} (h : p.ap = q.ap) : q = { p with ao := q.ao, c := q.c } := by
  cases p; cases q
  simp [Pk.ap] at h
  simp [h]

set_option maxHeartbeats 800000 in
set_option maxRecDepth 1000000 in
theorem samePacket_one {p : Pk} {ao : Option Addr} {c : Nat} {w : World} (h1 : Reads w (.slice p.ao p.bs.length p.c) p.bs) (h2 : Reads w (.slice ao p.bs.length c) p.bs) (hl : p.bs.length ≤ 140737488355328) :
    Calls Try.prog 30 #[p.V, ({ p with ao := ao, c := c } : Pk).V] w fun e w' => e = .returned (.bool true) ∧ Below w.heap.size w w' := by
  obtain ⟨n, hn⟩ : ∃ n, Hid (n = p.bs.length) := ⟨_, hid rfl⟩
  have B0 : ∀ o1 o2, Below w.heap.size w ((w.alloc o1).alloc o2) := fun o1 o2 => (ba w o1).trans ((ba (w.alloc o1) o2).mono (by simp))
  have S := hid (fun o1 o2 => same_any (h1.below (B0 o1 o2)) (h2.below (B0 o1 o2)) hl hl)
  simp only [alike_self] at S
  have B1 := hid B0
  clear h1 h2 B0
  show Calls Try.prog 30 #[.agg #[.int .i64 p.n, .int .i64 p.f, .int .i64 p.t, .int .i64 p.a, .int .i64 p.u, .slice p.ao p.bs.length p.c], .agg #[.int .i64 p.n, .int .i64 p.f, .int .i64 p.t, .int .i64 p.a, .int .i64 p.u, .slice ao p.bs.length c]] w _
  rw [← hn.out] at S hl ⊢
  go_enter Try.func30, Try.ntmps30
  go_wp2_with (go_at_call 27; refine (S.out _ _).mono ?_; rintro e w' ⟨rfl, q, rfl⟩)
  go_ret
  exact ⟨rfl, (B1.out _ _).trans ((bdN _ q).mono (by simp; omega))⟩
theorem samePacket_true {p q : Pk} {w : World} (h : p.ap = q.ap) (h1 : Reads w p.D p.bs) (h2 : Reads w q.D q.bs) (hl : p.bs.length ≤ 140737488355328) :
    Calls Try.prog 30 #[p.V, q.V] w fun e w' => e = .returned (.bool true) ∧ Below w.heap.size w w' := by
  have e := Pk.of_ap h
  have hb : q.bs = p.bs := by rw [e]
  rw [e]
  refine samePacket_one h1 ?_ hl
  have : Reads w (.slice q.ao q.bs.length q.c) q.bs := h2
  rwa [hb] at this

/-- Packets that are read in a row. -/
def PksAt (w : World) (v : Value) (ps : List Pk) : Prop := ∃ ao c, v = .slice ao ps.length c ∧ ∀ i p, ps[i]? = some p → ∃ g, ao = some ⟨g, 0, none⟩ ∧ g < w.heap.size ∧ w.rangeAt g (i * 6) p.cells
theorem PksAt.of_owns {w : World} {v : Value} {ps : List Pk} (h : w.ownsRow 0 49 6 v ps.length (flatP ps)) : PksAt w v ps := by
  obtain ⟨ao, c, rfl, hc⟩ := owns6_form h
  exact ⟨ao, c, rfl, fun i p hp => owns6 h hp⟩
theorem PksAt.later {w w' : World} {v : Value} {ps : List Pk} (h : PksAt w v ps) (hb : Below w.heap.size w w') : PksAt w' v ps := by
  obtain ⟨ao, c, rfl, hx⟩ := h
  refine ⟨ao, c, rfl, fun i p hp => ?_⟩
  obtain ⟨g, e, hg, hr⟩ := hx i p hp
  refine ⟨g, e, Nat.lt_of_lt_of_le hg hb.size, fun j v hv => ?_⟩
  rw [World.cell?_of_block (w := w) (hb.block g hg)]
  exact hr j v hv

set_option maxHeartbeats 1600000 in
set_option maxRecDepth 1000000 in
theorem samePackets_true {ps qs : List Pk} {v v' : Value} {w : World} (h : ps.map Pk.ap = qs.map Pk.ap) (hv : PksAt w v ps) (hv' : PksAt w v' qs) (h1 : ∀ p ∈ ps, Reads w p.D p.bs ∧ p.bs.length ≤ 140737488355328) (h2 : ∀ p ∈ qs, Reads w p.D p.bs) (hn : ps.length ≤ 140737488355328) :
    Calls Try.prog 16 #[v, v'] w fun e w' => e = .returned (.bool true) ∧ Below w.heap.size w w' := by
  have hlen : qs.length = ps.length := by have := congrArg List.length h; simpa using this.symm
  have HV := hid hv
  have HV' := hid hv'
  obtain ⟨ao, c, hs, _⟩ := hv
  obtain ⟨ao', c', hs', _⟩ := hv'
  subst hs hs'
  rw [hlen] at HV' ⊢
  have H := hid h
  have H1 := hid h1
  have H2 := hid h2
  have HL := hid hlen
  clear h h1 h2 hlen
  obtain ⟨n, hnn⟩ : ∃ n, Hid (n = ps.length) := ⟨_, hid rfl⟩
  rw [← hnn.out] at HV HV' hn ⊢
  go_enter Try.func16, Try.ntmps16
  go_wp2
  go_loopw [5] (fun iv wr => ∃ (i : Nat), i ≤ n ∧ iv = .int .i64 (i : Int) ∧ Hid (Below w.heap.size w wr)) (fun iv _ => n - (intOf iv).toNat)
  case atStart => exact ⟨0, by omega, rfl, hid (Below.refl _ _)⟩
  case round =>
    obtain ⟨i, hi, rfl, hB⟩ := hrel
    by_cases hlt : i < n
    · have hlt' := hlt
      rw [hnn.out] at hlt'
      obtain ⟨p, hp⟩ : ∃ p, ps[i]? = some p := ⟨_, List.getElem?_eq_getElem hlt'⟩
      obtain ⟨q, hq⟩ : ∃ q, qs[i]? = some q := ⟨_, List.getElem?_eq_getElem (by rw [HL.out]; exact hlt')⟩
      have hap : p.ap = q.ap := by
        have := congrArg (fun l => l[i]?) H.out
        simpa [hp, hq] using this
      obtain ⟨_, _, e1, r1⟩ := HV.out.later hB.out
      obtain ⟨_, _, e2, r2⟩ := HV'.out.later hB.out
      obtain ⟨g, eg, hg, hr⟩ := r1 i p hp
      obtain ⟨g', eg', hg', hr'⟩ := r2 i q hq
      simp only [Value.slice.injEq] at e1 e2
      obtain ⟨rfl, -, -⟩ := e1
      obtain ⟨rfl, -, -⟩ := e2
      subst eg eg'
      have S := hid (samePacket_true (w := wr.drew) hap ((H1.out p (List.mem_of_getElem? hp)).1.below hB.out).drew ((H2.out q (List.mem_of_getElem? hq)).below hB.out).drew (H1.out p (List.mem_of_getElem? hp)).2)
      obtain ⟨s1, s2, s3, s4, s5, s6⟩ := pkAt_of hr
      obtain ⟨z1, z2, z3, z4, z5, z6⟩ := pkAt_of hr'
      clear hp hq hap r1 r2 hr hr' hlt'
      have hii : (i : Int) < (n : Int) := by omega
      go_wp2
      go_region_law (go_simp; go_at_call 30; refine S.out.mono ?_; rintro e w5 ⟨rfl, hb5⟩; have B5 : Hid (Below w.heap.size w w5) := hid ((hB.out.trans ((bd wr).mono hB.out.size)).trans (hb5.mono hB.out.size)); clear hb5)
      all_goals (go_wp2; go_roundw)
      all_goals first
        | (case rel => exact ⟨i + 1, by omega, by go_num, B5⟩)
        | (case measure => simp [intOf]; omega)
        | skip
    · go_wp2
      go_ret
      exact ⟨rfl, hB.out⟩
end Go.Proofs.Ytpfpamkbahgkpaa
