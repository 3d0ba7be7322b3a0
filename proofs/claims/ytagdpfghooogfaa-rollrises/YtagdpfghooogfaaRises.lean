import Derived.Test.YtagdpfghooogfaaArgs
import Derived.Test.YtagdpfghooogfaaShown
import Derived.Deep.DeepCutAuto
import Derived.Deep.QuietTactic
import Derived.BigQuiet
namespace Go.Proofs.Ytagdpfghooogfaa
open Go.RowKit
set_option linter.unusedVariables false

theorem OkP.set {ps : List Pl} (h : OkP ps) {i : Nat} {n a c k : Int} {s : Value} {l : List ByteArray} (hm : may n a c k l = true) : OkP (ps.set i ⟨true, n, a, c, k, s, l⟩) := by
  refine ⟨by simpa using h.1, fun p hp => ?_⟩
  rcases List.mem_or_eq_of_mem_set hp with hp | rfl
  · exact h.2 p hp
  · exact .inr ⟨rfl, hm⟩
theorem OkP.zero : OkP (List.replicate 8 .zero) := ⟨rfl, fun p hp => .inl (by rw [List.eq_of_mem_replicate hp]; exact ⟨rfl, rfl⟩)⟩

theorem setE_may {ps : List Pl} {cl n a c k : Int} {l : List ByteArray} (h : setE ps cl n a c k l = 0) : may n a c k l = true := by
  unfold setE at h
  split at h
  · omega
  split at h
  · omega
  rename_i h2
  simpa using h2

/-- What is known behind a Set. -/
def Fact (E : Int) (p p2 : Pl) (x : Rw0) : Prop :=
  (E ≠ 0 ∧ p2 = p ∧ (may x.n x.a x.c x.k x.l = true → p.on = true ∧ ¬ (p.n < x.n ∧ p.a < x.a))) ∨
  (E = 0 ∧ p2.on = true ∧ p2.n = x.n ∧ p2.a = x.a ∧ p2.c = x.c ∧ p2.k = x.k ∧ p2.l = x.l ∧ (p.on = true → p.n < x.n ∧ p.a < x.a))

theorem set_fact {ps ps2 : List Pl} {ci : Nat} {x : Rw0} (hok : OkP ps) (hci : ci < 8) (h : (setE ps (ci : Int) x.n x.a x.c x.k x.l ≠ 0 ∧ ps2 = ps) ∨ (setE ps (ci : Int) x.n x.a x.c x.k x.l = 0 ∧ ∃ s', ps2 = ps.set (ci : Int).toNat ⟨true, x.n, x.a, x.c, x.k, s', x.l⟩)) : Fact (setE ps (ci : Int) x.n x.a x.c x.k x.l) (atP ps (ci : Int)) (atP ps2 (ci : Int)) x := by
  have hc : 0 ≤ (ci : Int) ∧ (ci : Int) < 8 := by omega
  have e1 : atP ps (ci : Int) = ps.getD (ci : Int).toNat .zero := by rw [atP, if_pos hc]
  rcases h with ⟨h0, rfl⟩ | ⟨h0, s', rfl⟩
  · refine .inl ⟨h0, rfl, fun hm => ?_⟩
    rw [setE, if_neg (by simpa using hc), if_neg (by rw [hm]; simp)] at h0
    rw [e1]
    exact Classical.byContradiction fun hn => h0 (if_neg hn)
  · refine .inr ⟨h0, ?_⟩
    have hl : ci < ps.length := by rw [hok.1]; exact hci
    have e2 : atP (ps.set (ci : Int).toNat ⟨true, x.n, x.a, x.c, x.k, s', x.l⟩) (ci : Int) = ⟨true, x.n, x.a, x.c, x.k, s', x.l⟩ := by
      rw [atP, if_pos hc]
      simp [List.getD, hl]
    rw [e2]
    refine ⟨rfl, rfl, rfl, rfl, rfl, rfl, fun hon => ?_⟩
    have hm := setE_may h0
    rw [setE, if_neg (by simpa using hc), if_neg (by rw [hm]; simp)] at h0
    rw [e1] at hon ⊢
    refine Classical.byContradiction fun hn => ?_
    rw [if_pos ⟨hon, hn⟩] at h0
    omega

/-- Places that have the same. -/
def SameP (p q : Pl) : Prop := q.on = p.on ∧ q.n = p.n ∧ q.a = p.a ∧ q.c = p.c ∧ q.k = p.k ∧ q.l = p.l
theorem SameP.bytes {p q : Pl} (h : SameP p q) : q.bytes = p.bytes := by
  obtain ⟨h1, h2, h3, h4, h5, h6⟩ := h
  unfold Pl.bytes
  rw [h1, h2, h3, h4, h5, h6]

theorem loadOk_bytes {ps : List Pl} (hok : OkP ps) : loadOk (ps.map Pl.bytes) := by
  refine ⟨by simpa using hok.1, fun l hl => ?_⟩
  obtain ⟨p, hp, rfl⟩ := List.mem_map.1 hl
  rcases hok.2 p hp with ⟨h1, _⟩ | ⟨h1, h2⟩
  · exact .inl (by simp [Pl.bytes, h1])
  · right
    simp only [Pl.bytes, h1, if_true]
    exact (row_back h2).1

theorem back_places {ps qs : List Pl} (hok : OkP ps) (h : Upto (ps.map Pl.bytes) 8 qs) : OkP qs ∧ ∀ c, SameP (atP ps c) (atP qs c) := by
  have each : ∀ (i : Nat) (p q : Pl), ps[i]? = some p → qs[i]? = some q → SameP p q ∧ q.ok := by
    intro i p q hp hq
    have hi : i < 8 := by have := (List.getElem?_eq_some_iff.1 hp).1; rw [hok.1] at this; exact this
    have hf := (h.2 i q hq).2 hi p.bytes (by rw [List.getElem?_map, hp]; rfl)
    rcases hok.2 p (List.mem_of_getElem? hp) with ⟨h1, h2⟩ | ⟨h1, h2⟩
    · subst h2
      have hb : Pl.zero.bytes = [] := rfl
      rw [hb] at hf
      rcases hf with ⟨_, rfl⟩ | ⟨hne, _⟩
      · exact ⟨⟨rfl, rfl, rfl, rfl, rfl, rfl⟩, .inl ⟨rfl, rfl⟩⟩
      · exact absurd rfl hne
    · have hb : p.bytes = rowB p.n p.a p.c p.k p.l := by simp [Pl.bytes, h1]
      have hlen := rowB_len h2
      have hbk := row_back h2
      rw [hb] at hf
      rcases hf with ⟨hne, _⟩ | ⟨_, _, q1, q2, q3, q4, q5, q6⟩
      · rw [hne] at hlen; simp at hlen
      · rw [hbk.2] at q2 q3 q4 q5 q6
        simp only at q2 q3 q4 q5 q6
        refine ⟨⟨by rw [q1, h1], q2, q3, q4, q5, q6⟩, .inr ⟨q1, by rw [q2, q3, q4, q5, q6]; exact h2⟩⟩
  have hl : ∀ i, i < 8 → (∃ p, ps[i]? = some p) ∧ ∃ q, qs[i]? = some q := fun i hi => ⟨⟨_, List.getElem?_eq_getElem (by rw [hok.1]; exact hi)⟩, ⟨_, List.getElem?_eq_getElem (by rw [h.1]; exact hi)⟩⟩
  refine ⟨⟨h.1, fun q hq => ?_⟩, fun c => ?_⟩
  · obtain ⟨i, hi, rfl⟩ := List.getElem_of_mem hq
    obtain ⟨⟨p, hp⟩, _⟩ := hl i (by rw [h.1] at hi; exact hi)
    exact (each i p _ hp (List.getElem?_eq_getElem hi)).2
  · unfold atP
    split
    · obtain ⟨⟨p, hp⟩, q, hq⟩ := hl c.toNat (by omega)
      have := (each c.toNat p q hp hq).1
      simpa [List.getD, hp, hq] using this
    · exact ⟨rfl, rfl, rfl, rfl, rfl, rfl⟩

theorem lists_of {so : Option Addr} {sc : Nat} {bl : List (Value × List UInt8)} {cs : List Comp} {w : World} {ls : List (List UInt8)} (h : All (ownC 40 (.slice so 8 sc) (bl.map Prod.fst) :: (bl.map bpart ++ cs)) w) (hb : bl.map Prod.snd = ls) (h8 : ls.length = 8) : Lists w (.slice so 8 sc) ls := by
  refine ⟨so, sc, by rw [h8], fun j hj => ?_⟩
  have hjb : j < bl.length := by have := congrArg List.length hb; simp at this; omega
  have own : w.ownsRow 0 40 1 (.slice so 8 sc) (bl.map Prod.fst).length (bl.map Prod.fst) := h.1.2.1
  obtain ⟨g, rfl, hc, _⟩ := owns_at own (k := j) (u := bl[j].1) (by simp [hjb])
  refine ⟨g, 0, bl[j].1, rfl, ?_, by rw [Nat.zero_add]; exact hc, ?_⟩
  · exact h.1.2.2 g (by simp [ownC, Value.ownBlock])
  · have hm : bpart bl[j] ∈ ownC 40 (.slice (some ⟨g, 0, none⟩) 8 sc) (bl.map Prod.fst) :: (bl.map bpart ++ cs) := List.mem_cons_of_mem _ (List.mem_append_left _ (List.mem_map_of_mem (List.getElem_mem hjb)))
    have ho : w.ownsRow 0 5 1 bl[j].1 (cellsB bl[j].2).length (cellsB bl[j].2) := (h.mem hm).2.1
    rw [cellsB_length] at ho
    have e : ls[j] = bl[j].2 := by subst hb; simp
    rw [e]
    exact Reads.of_owns ho

theorem three_perm (X R1 R2 cs : List Comp) : (X ++ (R1 ++ (R2 ++ cs))).Perm (R2 ++ (X ++ (R1 ++ cs))) := by
  have h := List.perm_append_comm_assoc (X ++ R1) R2 cs
  simpa [List.append_assoc] using h

set_option maxHeartbeats 16000000 in
set_option maxRecDepth 1000000 in
theorem rises_walk {w : World} {u v : Value} {zs : List Int} {xs : List Rw0} (hz : IntsAt w u zs) (hx : RowsAt w v xs) (hlz : zs.length ≤ 9223372036854775807) (hlx : xs.length ≤ 9223372036854775807) : Calls Try.prog 5 #[u, v] w fun e w' => e = .returned (.bool true) ∧ Below w.heap.size w w' := by
  obtain ⟨co, cc, rfl⟩ := hz.form
  obtain ⟨lo, lc, rfl⟩ := hx.form
  have HZ := hid hz
  have HX := hid hx
  obtain ⟨zl, hzl⟩ : ∃ zl, Hid (zl = zs.length) := ⟨_, hid rfl⟩
  obtain ⟨xl, hxl⟩ : ∃ xl, Hid (xl = xs.length) := ⟨_, hid rfl⟩
  have hlz : zl ≤ 9223372036854775807 := by rw [hzl.out]; exact hlz
  have hlx : xl ≤ 9223372036854775807 := by rw [hxl.out]; exact hlx
  rw [← hzl.out] at HZ ⊢
  rw [← hxl.out] at HX ⊢
  clear hz hx
  go_enter Try.func5, Try.ntmps5
  go_wp2_with fail
  refine (shown_all (All.came w)).mono ?_
  rintro e w1 ⟨rfl, A1⟩
  have A1 := hid A1
  go_wp2_with fail
  refine (new_any A1.out).mono ?_
  rintro e w2 ⟨g, rfl, A2⟩
  have A2 := hid A2
  clear A1
  go_wp2
  go_loopw [7] (fun iv wr => Box (∃ (i : Nat) (ps : List Pl), iv = .int .i64 (i : Int) ∧ i ≤ xl ∧ Hid (OkP ps ∧ All (rollL g ps ++ [inC w]) wr))) (fun iv _ => xl - (intOf iv).toNat)
  case atStart => exact ⟨⟨0, _, rfl, Nat.zero_le _, hid ⟨OkP.zero, A2.out⟩⟩⟩
  case round =>
    obtain ⟨i, ps, rfl, hi, HI⟩ := hrel.out
    clear hrel
    clear A2
    by_cases hlt : i < xl
    case neg => as_aux_lemma =>
      have el : decide ((i : Int) < (xl : Int)) = false := by simp; omega
      have CR := hid (rows_any HI.out.2 HI.out.1)
      go_wp2_with fail
      refine CR.out.mono ?_
      rintro e w3 ⟨so, sc, bl, rfl, hbl, hbf, A3⟩
      have HOK := hid HI.out.1
      have CLD := hid (load_any A3 (fun w' hw' => lists_of hw' hbl (by simpa using HOK.out.1)) (by simp [HOK.out.1]) (fun l hl => by
        obtain ⟨p, hp, rfl⟩ := List.mem_map.1 hl
        rcases HOK.out.2 p hp with ⟨h1, _⟩ | ⟨h1, h2⟩
        · simp [Pl.bytes, h1]
        · have := rowB_len h2
          simp only [Pl.bytes, h1, if_true]
          omega))
      clear A3 CR HI hbl hbf
      go_wp2_with fail
      refine CLD.out.mono ?_
      rintro e w4 (⟨hbad, _, _⟩ | ⟨_, g2, qs, rfl, hup, A4⟩)
      · exact absurd (loadOk_bytes HOK.out) hbad
      obtain ⟨OKQ, SM⟩ := back_places HOK.out hup
      have OKQ := hid OKQ
      have SM := hid SM
      have A5 := hid (show All (rollL g2 qs ++ (rollL g ps ++ [inC w])) w4 from A4.sublist (List.Sublist.append (.refl _) (.cons _ (List.sublist_append_right _ _))))
      clear A4 CLD hup hlz hlx
      go_wp2
      go_loopw [20] (fun iv wq => ∃ k : Nat, iv = .int .i64 (k : Int) ∧ k ≤ 8 ∧ Hid (All (rollL g2 qs ++ (rollL g ps ++ [inC w])) wq)) (fun iv _ => 8 - (intOf iv).toNat)
      case atStart => exact ⟨0, rfl, Nat.zero_le _, A5⟩
      case round =>
        obtain ⟨k, rfl, hk8, A6⟩ := hrel
        clear A5
        by_cases hkl : k < 8
        case neg =>
          have ek : decide ((k : Int) < 8) = false := by simp; omega
          go_wp2
          go_ret
          exact ⟨rfl, A6.out.into (by simp)⟩
        have ek : decide ((k : Int) < 8) = true := by simp; omega
        obtain ⟨p, hp⟩ : ∃ p, Hid (p = atP ps (k : Int)) := ⟨_, hid rfl⟩
        obtain ⟨q, hq⟩ : ∃ q, Hid (q = atP qs (k : Int)) := ⟨_, hid rfl⟩
        have S1 : Hid (SameP p q) := hid (by rw [hp.out, hq.out]; exact SM.out _)
        obtain ⟨n1, hn1⟩ : ∃ n1, Hid (n1 = p.l.length) := ⟨_, hid rfl⟩
        obtain ⟨n2, hn2⟩ : ∃ n2, Hid (n2 = q.l.length) := ⟨_, hid rfl⟩
        have C1 := hid (last_any (A6.out.perm (List.perm_append_comm_assoc (rollL g2 qs) (rollL g ps) [inC w])) HOK.out (k : Int))
        rw [← hp.out, ← hn1.out] at C1
        go_wp2_with fail
        refine C1.out.mono ?_
        rintro e w5 ⟨so1, sc1, rfl, A7⟩
        have A8 := hid ((A7.addBlk [.int .i64 p.n, .int .i64 p.a, .int .i64 p.c, .int .i64 p.k, .slice so1 n1 sc1] 39).perm (three_perm [_, _] (rollL g ps) (rollL g2 qs) [inC w]))
        have C2 := hid (last_any A8.out OKQ.out (k : Int))
        rw [← hq.out, ← hn2.out] at C2
        clear C1 A7 A6
        go_wp2_with fail
        refine C2.out.mono ?_
        rintro e w6 ⟨so2, sc2, rfl, A9⟩
        have A10 := hid (A9.addBlk [.int .i64 q.n, .int .i64 q.a, .int .i64 q.c, .int .i64 q.k, .slice so2 n2 sc2] 39)
        clear C2 A8 A9
        have erx : (w6.alloc (.cells #[.int .i64 q.n, .int .i64 q.a, .int .i64 q.c, .int .i64 q.k, .slice so2 n2 sc2] 39)).heap[w5.heap.size]? = some (.cells #[.int .i64 p.n, .int .i64 p.a, .int .i64 p.c, .int .i64 p.k, .slice so1 n1 sc1] 39 (0, 0)) := A10.out.blk (vs := [.int .i64 p.n, .int .i64 p.a, .int .i64 p.c, .int .i64 p.k, .slice so1 n1 sc1]) (by simp)
        have x0 : (w6.alloc (.cells #[.int .i64 q.n, .int .i64 q.a, .int .i64 q.c, .int .i64 q.k, .slice so2 n2 sc2] 39)).cell? ⟨w5.heap.size, 0, none⟩ = some (.int .i64 p.n) := by rw [cell_at erx]; rfl
        have x1 : (w6.alloc (.cells #[.int .i64 q.n, .int .i64 q.a, .int .i64 q.c, .int .i64 q.k, .slice so2 n2 sc2] 39)).cell? ⟨w5.heap.size, 1, none⟩ = some (.int .i64 p.a) := by rw [cell_at erx]; rfl
        have x2 : (w6.alloc (.cells #[.int .i64 q.n, .int .i64 q.a, .int .i64 q.c, .int .i64 q.k, .slice so2 n2 sc2] 39)).cell? ⟨w5.heap.size, 2, none⟩ = some (.int .i64 p.c) := by rw [cell_at erx]; rfl
        have x3 : (w6.alloc (.cells #[.int .i64 q.n, .int .i64 q.a, .int .i64 q.c, .int .i64 q.k, .slice so2 n2 sc2] 39)).cell? ⟨w5.heap.size, 3, none⟩ = some (.int .i64 p.k) := by rw [cell_at erx]; rfl
        have x4 : (w6.alloc (.cells #[.int .i64 q.n, .int .i64 q.a, .int .i64 q.c, .int .i64 q.k, .slice so2 n2 sc2] 39)).cell? ⟨w5.heap.size, 4, none⟩ = some (.slice so1 n1 sc1) := by rw [cell_at erx]; rfl
        clear erx
        have ery : (w6.alloc (.cells #[.int .i64 q.n, .int .i64 q.a, .int .i64 q.c, .int .i64 q.k, .slice so2 n2 sc2] 39)).heap[w6.heap.size]? = some (.cells #[.int .i64 q.n, .int .i64 q.a, .int .i64 q.c, .int .i64 q.k, .slice so2 n2 sc2] 39 (0, 0)) := A10.out.1.2.1
        have y0 : (w6.alloc (.cells #[.int .i64 q.n, .int .i64 q.a, .int .i64 q.c, .int .i64 q.k, .slice so2 n2 sc2] 39)).cell? ⟨w6.heap.size, 0, none⟩ = some (.int .i64 q.n) := by rw [cell_at ery]; rfl
        have y1 : (w6.alloc (.cells #[.int .i64 q.n, .int .i64 q.a, .int .i64 q.c, .int .i64 q.k, .slice so2 n2 sc2] 39)).cell? ⟨w6.heap.size, 1, none⟩ = some (.int .i64 q.a) := by rw [cell_at ery]; rfl
        have y2 : (w6.alloc (.cells #[.int .i64 q.n, .int .i64 q.a, .int .i64 q.c, .int .i64 q.k, .slice so2 n2 sc2] 39)).cell? ⟨w6.heap.size, 2, none⟩ = some (.int .i64 q.c) := by rw [cell_at ery]; rfl
        have y3 : (w6.alloc (.cells #[.int .i64 q.n, .int .i64 q.a, .int .i64 q.c, .int .i64 q.k, .slice so2 n2 sc2] 39)).cell? ⟨w6.heap.size, 3, none⟩ = some (.int .i64 q.k) := by rw [cell_at ery]; rfl
        have y4 : (w6.alloc (.cells #[.int .i64 q.n, .int .i64 q.a, .int .i64 q.c, .int .i64 q.k, .slice so2 n2 sc2] 39)).cell? ⟨w6.heap.size, 4, none⟩ = some (.slice so2 n2 sc2) := by rw [cell_at ery]; rfl
        clear ery
        have T1 : Txts (w6.alloc (.cells #[.int .i64 q.n, .int .i64 q.a, .int .i64 q.c, .int .i64 q.k, .slice so2 n2 sc2] 39)) (.slice so1 n1 sc1) p.l := Txts.of_owns (base := 0) (by
          have h : (w6.alloc (.cells #[.int .i64 q.n, .int .i64 q.a, .int .i64 q.c, .int .i64 q.k, .slice so2 n2 sc2] 39)).ownsRow 0 9 1 (.slice so1 n1 sc1) (cellsT p.l).length (cellsT p.l) := (A10.out.mem (c := ownC 9 (.slice so1 n1 sc1) (cellsT p.l)) (by simp)).2.1
          rw [cellsT_length] at h; exact h)
        have T2 : Txts (w6.alloc (.cells #[.int .i64 q.n, .int .i64 q.a, .int .i64 q.c, .int .i64 q.k, .slice so2 n2 sc2] 39)) (.slice so2 n2 sc2) q.l := Txts.of_owns (base := 0) (by
          have h : (w6.alloc (.cells #[.int .i64 q.n, .int .i64 q.a, .int .i64 q.c, .int .i64 q.k, .slice so2 n2 sc2] 39)).ownsRow 0 9 1 (.slice so2 n2 sc2) (cellsT q.l).length (cellsT q.l) := (A10.out.mem (c := ownC 9 (.slice so2 n2 sc2) (cellsT q.l)) (by simp)).2.1
          rw [cellsT_length] at h; exact h)
        have hlp : p.l.length ≤ 9223372036854775807 := by
          rw [hp.out]
          rcases HOK.out.at (k : Int) with ⟨_, h⟩ | ⟨_, h⟩
          · rw [h]; simp [Pl.zero]
          · have := may_parts h; omega
        have C3 := sameRow_any (n := p.n) (a := p.a) (c := p.c) (k := p.k) (n' := q.n) (a' := q.a) (c' := q.c) (k' := q.k) T1 T2 hlp
        rw [show decide (p.n = q.n ∧ p.a = q.a ∧ p.c = q.c ∧ p.k = q.k ∧ p.l = q.l) = true by
          obtain ⟨_, h2, h3, h4, h5, h6⟩ := S1.out
          simp [h2, h3, h4, h5, h6]] at C3
        have C3 := hid C3
        clear T1 T2 hlp
        go_wp2_with fail
        refine C3.out.mono ?_
        rintro e w8 ⟨rfl, B8⟩
        have A11 := hid (show All (rollL g2 qs ++ (rollL g ps ++ [inC w])) w8 from (A10.out.later B8).sublist (.cons _ (.cons _ (List.Sublist.append (.refl _) (.cons _ (.cons _ (.refl _)))))))
        clear C3 A10 B8 x0 x1 x2 x3 x4 y0 y1 y2 y3 y4
        obtain ⟨B, hB⟩ : ∃ B, Hid (B = p.bytes) := ⟨_, hid rfl⟩
        have hBq : Hid (q.bytes = B) := hid (by rw [hB.out]; exact S1.out.bytes)
        obtain ⟨nB, hnB⟩ : ∃ nB, Hid (nB = B.length) := ⟨_, hid rfl⟩
        have C4 := hid (tell_any (A11.out.perm (List.perm_append_comm_assoc (rollL g2 qs) (rollL g ps) [inC w])) HOK.out (k : Int))
        rw [← hp.out, ← hB.out, ← hnB.out] at C4
        go_wp2_with fail
        refine C4.out.mono ?_
        rintro e w9 ⟨so3, sc3, rfl, A12⟩
        have A13 := hid (A12.perm (three_perm [_] (rollL g ps) (rollL g2 qs) [inC w]))
        have C5 := hid (tell_any A13.out OKQ.out (k : Int))
        rw [← hq.out, hBq.out, ← hnB.out] at C5
        clear C4 A11 A12
        go_wp2_with fail
        refine C5.out.mono ?_
        rintro e w10 ⟨so4, sc4, rfl, A14⟩
        have D1 : Reads w10 (.slice so3 nB sc3) B := Reads.of_owns (base := 0) (by
          have h : w10.ownsRow 0 5 1 (.slice so3 nB sc3) (cellsB B).length (cellsB B) := (A14.mem (c := ownC 5 (.slice so3 nB sc3) (cellsB B)) (by simp)).2.1
          rw [cellsB_length] at h; exact h)
        have D2 : Reads w10 (.slice so4 nB sc4) B := Reads.of_owns (base := 0) (by
          have h : w10.ownsRow 0 5 1 (.slice so4 nB sc4) (cellsB B).length (cellsB B) := (A14.mem (c := ownC 5 (.slice so4 nB sc4) (cellsB B)) (by simp)).2.1
          rw [cellsB_length] at h; exact h)
        have C6 := same_any D1 D2
        rw [show decide (B = B) = true by simp] at C6
        have C6 := hid C6
        have A15 := hid (show All (rollL g2 qs ++ (rollL g ps ++ [inC w])) w10 from A14.sublist (.cons _ (List.Sublist.append (.refl _) (.cons _ (.refl _)))))
        clear C5 A13 A14 D1 D2
        go_wp2_with fail
        refine C6.out.mono ?_
        rintro e w11 ⟨rfl, rfl⟩
        have hon : q.on = p.on := S1.out.1
        rw [hon]
        clear hon C6
        cases ho : p.on with
        | false =>
          clear ho
          go_wp2
          go_roundw
          case rel => exact ⟨k + 1, by go_num, by omega, A15⟩
          case measure => simp [intOf]; omega
        | true =>
          clear ho
          go_wp2
          go_roundw
          case rel => exact ⟨k + 1, by go_num, by omega, A15⟩
          case measure => simp [intOf]; omega
    have el : decide ((i : Int) < (xl : Int)) = true := by simpa using hlt
    go_upto_if 44 with fail
    go_cut [8] (fun cv wx => ∃ ci : Nat, cv = .int .i64 (ci : Int) ∧ ci < 8 ∧ wx = wr)
    case first => as_aux_lemma =>
      by_cases hz : i < zl
      · have ez : decide ((i : Int) < (zl : Int)) = true := by simpa using hz
        obtain ⟨z, hzi⟩ : ∃ z, zs[i]? = some z := ⟨_, List.getElem?_eq_getElem (by rw [← hzl.out]; exact hz)⟩
        obtain ⟨z1, z2, gz, oz, ea, hgz, hcz⟩ := HZ.out.at (HI.out.2.into (w0 := w) (by simp)) hzi
        subst ea
        clear hzi
        go_wp2_with fail
        refine (pick_any z1 z2).mono ?_
        rintro e w3 ⟨ci, hci, rfl, rfl⟩
        go_wp2_with fail
        go_meet
        exact ⟨ci, rfl, hci, rfl⟩
      · have ez : decide ((i : Int) < (zl : Int)) = false := by simp; omega
        go_wp2_with fail
        go_meet
        exact ⟨0, rfl, by omega, rfl⟩
    case rest => as_aux_lemma =>
    obtain ⟨ci, rfl, hci, rfl⟩ := hcut
    obtain ⟨x, hxi⟩ : ∃ x, Hid (xs[i]? = some x) := ⟨_, hid (List.getElem?_eq_getElem (by rw [← hxl.out]; exact hlt))⟩
    have CL := hid (last_any HI.out.2 HI.out.1 (ci : Int))
    obtain ⟨p, hp⟩ : ∃ p, Hid (p = atP ps (ci : Int)) := ⟨_, hid rfl⟩
    obtain ⟨n1, hn1⟩ : ∃ n1, Hid (n1 = p.l.length) := ⟨_, hid rfl⟩
    rw [← hp.out, ← hn1.out] at CL
    go_wp2_with fail
    refine CL.out.mono ?_
    rintro e w3 ⟨so1, sc1, rfl, A3⟩
    have A4 := hid ((A3.addBlk [.int .i64 p.n, .int .i64 p.a, .int .i64 p.c, .int .i64 p.k, .slice so1 n1 sc1] 39).perm (List.perm_append_comm_assoc [_, _] (rollL g ps) [inC w]))
    clear CL A3
    obtain ⟨hxlen, gx, ox, ea, hgx, q0, q1, q2, q3, q4, qT⟩ := HX.out.at (A4.out.into (w0 := w) (by simp)) hxi.out
    subst ea
    obtain ⟨xo, xc, xs5⟩ := qT.form
    obtain ⟨nx, hnx⟩ : ∃ nx, Hid (nx = x.l.length) := ⟨_, hid rfl⟩
    have hnxl : nx ≤ 9223372036854775807 := by rw [hnx.out]; exact hxlen
    rw [← hnx.out] at xs5
    have CS := hid (set_any (cl := (ci : Int)) (n := x.n) (a := x.a) (c := x.c) (k := x.k) A4.out HI.out.1.1 qT (by rw [← hnx.out]; omega))
    rw [xs5] at q4
    rw [xs5] at CS
    have XS5 := hid xs5
    obtain ⟨E, hE⟩ : ∃ E, Hid (E = setE ps (ci : Int) x.n x.a x.c x.k x.l) := ⟨_, hid rfl⟩
    rw [← hE.out] at CS
    clear qT xs5
    go_wp2_with fail
    refine CS.out.mono ?_
    rintro e w5 ⟨rfl, ps2, A6, hps⟩
    have OK2 : OkP ps2 := by
      rcases hps with ⟨_, rfl⟩ | ⟨h0, s', rfl⟩
      · exact HI.out.1
      · exact HI.out.1.set (setE_may (hE.out.symm.trans h0))
    obtain ⟨p2, hp2⟩ : ∃ p2, Hid (p2 = atP ps2 (ci : Int)) := ⟨_, hid rfl⟩
    have FA : Hid (Fact E p p2 x) := hid (by rw [hE.out, hp.out, hp2.out]; rw [hE.out] at hps; exact set_fact HI.out.1 hci hps)
    obtain ⟨n2, hn2⟩ : ∃ n2, Hid (n2 = p2.l.length) := ⟨_, hid rfl⟩
    have OKH := hid OK2
    have CL2 := hid (last_any A6 OK2 (ci : Int))
    rw [← hp2.out, ← hn2.out] at CL2
    clear CS A4 hps OK2 HI q0 q1 q2 q3 q4 A6
    go_wp2_with fail
    refine CL2.out.mono ?_
    rintro e w6 ⟨so2, sc2, rfl, A7⟩
    have A8 := hid ((A7.addBlk [.int .i64 p2.n, .int .i64 p2.a, .int .i64 p2.c, .int .i64 p2.k, .slice so2 n2 sc2] 39).perm (List.perm_append_comm_assoc [_, _] (rollL g ps2) _))
    have CT := hid (tell_any A8.out OKH.out (ci : Int))
    obtain ⟨B, hB⟩ : ∃ B, Hid (B = p2.bytes) := ⟨_, hid rfl⟩
    obtain ⟨nB, hnB⟩ : ∃ nB, Hid (nB = B.length) := ⟨_, hid rfl⟩
    rw [← hp2.out, ← hB.out, ← hnB.out] at CT
    clear CL2 A7
    go_wp2_with fail
    refine CT.out.mono ?_
    rintro e w7 ⟨so3, sc3, rfl, A9⟩
    have A9 : Hid (All (rollL g ps2 ++ [blkC w6.heap.size [.int .i64 p2.n, .int .i64 p2.a, .int .i64 p2.c, .int .i64 p2.k, .slice so2 n2 sc2] 39, ownC 9 (.slice so2 n2 sc2) (cellsT p2.l), blkC w3.heap.size [.int .i64 p.n, .int .i64 p.a, .int .i64 p.c, .int .i64 p.k, .slice so1 n1 sc1] 39, ownC 9 (.slice so1 n1 sc1) (cellsT p.l), inC w]) w7) := hid A9.tail
    clear CT A8
    have ero : w7.heap[w3.heap.size]? = some (.cells #[.int .i64 p.n, .int .i64 p.a, .int .i64 p.c, .int .i64 p.k, .slice so1 n1 sc1] 39 (0, 0)) := A9.out.blk (vs := [.int .i64 p.n, .int .i64 p.a, .int .i64 p.c, .int .i64 p.k, .slice so1 n1 sc1]) (by simp)
    have o0 : w7.cell? ⟨w3.heap.size, 0, none⟩ = some (.int .i64 p.n) := by rw [cell_at ero]; rfl
    have o1 : w7.cell? ⟨w3.heap.size, 1, none⟩ = some (.int .i64 p.a) := by rw [cell_at ero]; rfl
    have o2 : w7.cell? ⟨w3.heap.size, 2, none⟩ = some (.int .i64 p.c) := by rw [cell_at ero]; rfl
    have o3 : w7.cell? ⟨w3.heap.size, 3, none⟩ = some (.int .i64 p.k) := by rw [cell_at ero]; rfl
    have o4 : w7.cell? ⟨w3.heap.size, 4, none⟩ = some (.slice so1 n1 sc1) := by rw [cell_at ero]; rfl
    clear ero
    have ery : w7.heap[w6.heap.size]? = some (.cells #[.int .i64 p2.n, .int .i64 p2.a, .int .i64 p2.c, .int .i64 p2.k, .slice so2 n2 sc2] 39 (0, 0)) := A9.out.blk (vs := [.int .i64 p2.n, .int .i64 p2.a, .int .i64 p2.c, .int .i64 p2.k, .slice so2 n2 sc2]) (by simp)
    have y0 : w7.cell? ⟨w6.heap.size, 0, none⟩ = some (.int .i64 p2.n) := by rw [cell_at ery]; rfl
    have y1 : w7.cell? ⟨w6.heap.size, 1, none⟩ = some (.int .i64 p2.a) := by rw [cell_at ery]; rfl
    have y2 : w7.cell? ⟨w6.heap.size, 2, none⟩ = some (.int .i64 p2.c) := by rw [cell_at ery]; rfl
    have y3 : w7.cell? ⟨w6.heap.size, 3, none⟩ = some (.int .i64 p2.k) := by rw [cell_at ery]; rfl
    have y4 : w7.cell? ⟨w6.heap.size, 4, none⟩ = some (.slice so2 n2 sc2) := by rw [cell_at ery]; rfl
    clear ery
    have TX : Hid (∀ W, All (rollL g ps2 ++ [blkC w6.heap.size [.int .i64 p2.n, .int .i64 p2.a, .int .i64 p2.c, .int .i64 p2.k, .slice so2 n2 sc2] 39, ownC 9 (.slice so2 n2 sc2) (cellsT p2.l), blkC w3.heap.size [.int .i64 p.n, .int .i64 p.a, .int .i64 p.c, .int .i64 p.k, .slice so1 n1 sc1] 39, ownC 9 (.slice so1 n1 sc1) (cellsT p.l), inC w]) W → Txts W (.slice so2 n2 sc2) p2.l ∧ Txts W (.slice so1 n1 sc1) p.l) := hid (fun W hW => by
      have h1 : W.ownsRow 0 9 1 (.slice so2 n2 sc2) (cellsT p2.l).length (cellsT p2.l) := (hW.mem (c := ownC 9 (.slice so2 n2 sc2) (cellsT p2.l)) (by simp)).2.1
      have h2 : W.ownsRow 0 9 1 (.slice so1 n1 sc1) (cellsT p.l).length (cellsT p.l) := (hW.mem (c := ownC 9 (.slice so1 n1 sc1) (cellsT p.l)) (by simp)).2.1
      rw [cellsT_length] at h1 h2
      exact ⟨Txts.of_owns h1, Txts.of_owns h2⟩)
    have hlp2 : Hid (p2.l.length ≤ 9223372036854775807) := hid (by
      rw [hp2.out]
      rcases OKH.out.at (ci : Int) with ⟨_, h⟩ | ⟨_, h⟩
      · rw [h]; simp [Pl.zero]
      · have := may_parts h; omega)
    have CK := hid (sameRow_any (n := p2.n) (a := p2.a) (c := p2.c) (k := p2.k) (n' := p.n) (a' := p.a) (c' := p.c) (k' := p.k) (TX.out w7 A9.out).1 (TX.out w7 A9.out).2 hlp2.out)
    obtain ⟨KV, hKV⟩ : ∃ KV, Hid (KV = decide (p2.n = p.n ∧ p2.a = p.a ∧ p2.c = p.c ∧ p2.k = p.k ∧ p2.l = p.l)) := ⟨_, hid rfl⟩
    rw [← hKV.out] at CK
    go_wp2_with fail
    refine CK.out.mono ?_
    rintro e w8 ⟨rfl, B8⟩
    have A10 := hid (A9.out.later B8)
    clear CK A9 B8 o0 o1 o2 o3 o4 y0 y1 y2 y3 y4
    obtain ⟨_, gx', ox', ea, hgx', q0, q1, q2, q3, q4, qT⟩ := HX.out.at (A10.out.into (w0 := w) (by simp)) hxi.out
    simp only [Option.some.injEq, Addr.mk.injEq, and_true] at ea
    obtain ⟨rfl, rfl⟩ := ea
    have CV := hid (sameRow_any (w := w8.drew) (n := p2.n) (a := p2.a) (c := p2.c) (k := p2.k) (n' := x.n) (a' := x.a) (c' := x.c) (k' := x.k) ((TX.out w8 A10.out).1.later (bd w8)) (qT.later (bd w8)) hlp2.out)
    obtain ⟨TV, hTV⟩ : ∃ TV, Hid (TV = decide (p2.n = x.n ∧ p2.a = x.a ∧ p2.c = x.c ∧ p2.k = x.k ∧ p2.l = x.l)) := ⟨_, hid rfl⟩
    rw [← hTV.out, XS5.out] at CV
    rw [XS5.out] at q4
    have ery : w8.heap[w6.heap.size]? = some (.cells #[.int .i64 p2.n, .int .i64 p2.a, .int .i64 p2.c, .int .i64 p2.k, .slice so2 n2 sc2] 39 (0, 0)) := A10.out.blk (vs := [.int .i64 p2.n, .int .i64 p2.a, .int .i64 p2.c, .int .i64 p2.k, .slice so2 n2 sc2]) (by simp)
    have y0 : w8.cell? ⟨w6.heap.size, 0, none⟩ = some (.int .i64 p2.n) := by rw [cell_at ery]; rfl
    have y1 : w8.cell? ⟨w6.heap.size, 1, none⟩ = some (.int .i64 p2.a) := by rw [cell_at ery]; rfl
    have y2 : w8.cell? ⟨w6.heap.size, 2, none⟩ = some (.int .i64 p2.c) := by rw [cell_at ery]; rfl
    have y3 : w8.cell? ⟨w6.heap.size, 3, none⟩ = some (.int .i64 p2.k) := by rw [cell_at ery]; rfl
    have y4 : w8.cell? ⟨w6.heap.size, 4, none⟩ = some (.slice so2 n2 sc2) := by rw [cell_at ery]; rfl
    clear ery
    clear qT
    go_upto_region 16 with fail
    go_cut [16] (fun tv wx => tv = .bool TV ∧ Hid (All (rollL g ps2 ++ [blkC w6.heap.size [.int .i64 p2.n, .int .i64 p2.a, .int .i64 p2.c, .int .i64 p2.k, .slice so2 n2 sc2] 39, ownC 9 (.slice so2 n2 sc2) (cellsT p2.l), blkC w3.heap.size [.int .i64 p.n, .int .i64 p.a, .int .i64 p.c, .int .i64 p.k, .slice so1 n1 sc1] 39, ownC 9 (.slice so1 n1 sc1) (cellsT p.l), inC w]) wx))
    case first => as_aux_lemma =>
      go_wp2_with fail
      go_region_law (go_simp; go_at_call 24; refine CV.out.mono ?_; rintro e w9 ⟨rfl, B9⟩)
      all_goals (have A11 := hid (A10.out.drew.later B9); clear A10 CV B9; go_wp2_with fail; go_meet; exact ⟨rfl, A11⟩)
    case rest => as_aux_lemma =>
    obtain ⟨rfl, A11⟩ := hcut
    clear CV A10 q0 q1 q2 q3 q4 y0 y1 y2 y3 y4
    obtain ⟨_, gx2, ox2, ea, hgx2, q0, q1, q2, q3, q4, qT⟩ := HX.out.at (A11.out.into (w0 := w) (by simp)) hxi.out
    simp only [Option.some.injEq, Addr.mk.injEq, and_true] at ea
    obtain ⟨rfl, rfl⟩ := ea
    rw [XS5.out] at q4
    have ero : wc.heap[w3.heap.size]? = some (.cells #[.int .i64 p.n, .int .i64 p.a, .int .i64 p.c, .int .i64 p.k, .slice so1 n1 sc1] 39 (0, 0)) := A11.out.blk (vs := [.int .i64 p.n, .int .i64 p.a, .int .i64 p.c, .int .i64 p.k, .slice so1 n1 sc1]) (by simp)
    have o0 : wc.cell? ⟨w3.heap.size, 0, none⟩ = some (.int .i64 p.n) := by rw [cell_at ero]; rfl
    have o1 : wc.cell? ⟨w3.heap.size, 1, none⟩ = some (.int .i64 p.a) := by rw [cell_at ero]; rfl
    have o2 : wc.cell? ⟨w3.heap.size, 2, none⟩ = some (.int .i64 p.c) := by rw [cell_at ero]; rfl
    have o3 : wc.cell? ⟨w3.heap.size, 3, none⟩ = some (.int .i64 p.k) := by rw [cell_at ero]; rfl
    have o4 : wc.cell? ⟨w3.heap.size, 4, none⟩ = some (.slice so1 n1 sc1) := by rw [cell_at ero]; rfl
    clear ero
    have ery : wc.heap[w6.heap.size]? = some (.cells #[.int .i64 p2.n, .int .i64 p2.a, .int .i64 p2.c, .int .i64 p2.k, .slice so2 n2 sc2] 39 (0, 0)) := A11.out.blk (vs := [.int .i64 p2.n, .int .i64 p2.a, .int .i64 p2.c, .int .i64 p2.k, .slice so2 n2 sc2]) (by simp)
    have y0 : wc.cell? ⟨w6.heap.size, 0, none⟩ = some (.int .i64 p2.n) := by rw [cell_at ery]; rfl
    have y1 : wc.cell? ⟨w6.heap.size, 1, none⟩ = some (.int .i64 p2.a) := by rw [cell_at ery]; rfl
    have y2 : wc.cell? ⟨w6.heap.size, 2, none⟩ = some (.int .i64 p2.c) := by rw [cell_at ery]; rfl
    have y3 : wc.cell? ⟨w6.heap.size, 3, none⟩ = some (.int .i64 p2.k) := by rw [cell_at ery]; rfl
    have y4 : wc.cell? ⟨w6.heap.size, 4, none⟩ = some (.slice so2 n2 sc2) := by rw [cell_at ery]; rfl
    clear ery
    clear qT
    have BF : Hid (decide ((600 : Int) ≤ (nB : Int)) = false ∧ decide ((0 : Int) < (nB : Int)) = p2.on) := hid (by
      have h := OKH.out.at (ci : Int)
      rw [← hp2.out] at h
      rw [hnB.out, hB.out]
      rcases h with ⟨h1, h2⟩ | ⟨h1, h2⟩
      · have : p2.bytes = [] := by simp [Pl.bytes, h1]
        rw [this, h1]; decide
      · have e : p2.bytes = rowB p2.n p2.a p2.c p2.k p2.l := by simp [Pl.bytes, h1]
        have := rowB_len h2
        rw [e, h1]
        constructor
        · simp; omega
        · simp; omega)
    go_upto_region 17 with fail
    go_cut [10, 13, 15, 16, 107] (fun v1 v2 v3 v4 cv wx => v1 = .bool p.on ∧ v2 = .bool p2.on ∧ v3 = .bool KV ∧ v4 = .bool TV ∧ cv = .bool false ∧ wx = wc)
    case first => as_aux_lemma =>
      rcases FA.out with ⟨hE0, _, _⟩ | ⟨hE0, hon2, hn, ha, hc, hk, hl, hr⟩
      · have e0 : (E == 0) = false := by simpa using hE0
        clear hE0
        go_wp2_with fail
        go_meet
        exact ⟨rfl, rfl, rfl, rfl, rfl, rfl⟩
      · have e0 : (E == 0) = true := by simpa using hE0
        have hT : TV = true := by rw [hTV.out]; simp [hn, ha, hc, hk, hl]
        have hr2 : Hid (p.on = true → decide (p2.n ≤ p.n) = false ∧ decide (p2.a ≤ p.a) = false) := hid (fun h => by
          have := hr h
          constructor
          · simp; omega
          · simp; omega)
        clear hE0 hn ha hc hk hl hr
        rw [hon2, hT]
        cases hon : p.on with
        | false =>
          have HH := hid (And.intro hon2 (And.intro hT hon))
          clear hon2 hT hon
          go_wp2_with fail
          go_meet
          obtain ⟨hon2, hT, hon⟩ := HH.out
          refine ⟨?_, ?_, rfl, ?_, rfl, rfl⟩
          · rw [hon]
          · rw [hon2]
          · rw [hT]
        | true =>
          obtain ⟨r1, r2⟩ := hr2.out hon
          have HH := hid (And.intro hon2 (And.intro hT hon))
          clear hon2 hT hon hr2
          go_wp2_with fail
          go_meet
          obtain ⟨hon2, hT, hon⟩ := HH.out
          refine ⟨?_, ?_, rfl, ?_, rfl, rfl⟩
          · rw [hon]
          · rw [hon2]
          · rw [hT]
    case rest => as_aux_lemma =>
    obtain ⟨rfl, rfl, rfl, rfl, rfl, rfl⟩ := hcut
    go_upto_region 19 with fail
    go_cut [10, 13, 15, 16, 130] (fun v1 v2 v3 v4 cv wx => v1 = .bool p.on ∧ v2 = .bool p2.on ∧ v3 = .bool KV ∧ v4 = .bool TV ∧ cv = .bool false ∧ wx = wc)
    case first => as_aux_lemma =>
      obtain ⟨b1, b2⟩ := BF.out
      have b1n : decide (600 ≤ nB) = false := by simp at b1 ⊢; omega
      rcases FA.out with ⟨hE0, hpp, _⟩ | ⟨hE0, hon2, hn, ha, hc, hk, hl, hr⟩
      · have e0 : (E != 0) = true := by simpa using hE0
        have hK : KV = true := by rw [hKV.out, hpp]; simp
        have hpo : p2.on = p.on := by rw [hpp]
        clear hE0 hpp
        rw [hK]
        rw [hpo] at b2 ⊢
        cases hon : p.on with
        | false =>
          rw [hon] at b2
          have b2n : decide (0 < nB) = false := by simp at b2 ⊢; omega
          have HH := hid (And.intro hpo (And.intro hK hon))
          clear hpo hK hon
          go_wp2_with fail
          go_meet
          obtain ⟨hpo, hK, hon⟩ := HH.out
          refine ⟨?_, ?_, ?_, rfl, rfl, rfl⟩
          · rw [hon]
          · rw [hpo, hon]
          · rw [hK]
        | true =>
          rw [hon] at b2
          have b2n : decide (0 < nB) = true := by simp at b2 ⊢; omega
          have HH := hid (And.intro hpo (And.intro hK hon))
          clear hpo hK hon
          go_wp2_with fail
          go_meet
          obtain ⟨hpo, hK, hon⟩ := HH.out
          refine ⟨?_, ?_, ?_, rfl, rfl, rfl⟩
          · rw [hon]
          · rw [hpo, hon]
          · rw [hK]
      · have e0 : (E != 0) = false := by simpa using hE0
        clear hE0 hn ha hc hk hl hr
        rw [hon2] at b2 ⊢
        have b2n : decide (0 < nB) = true := by simp at b2 ⊢; omega
        have HH := hid hon2
        clear hon2
        go_wp2_with fail
        go_meet
        refine ⟨rfl, ?_, rfl, rfl, rfl, rfl⟩
        rw [HH.out]
    case rest => as_aux_lemma =>
    obtain ⟨rfl, rfl, rfl, rfl, rfl, rfl⟩ := hcut
    obtain ⟨AH, hAH⟩ : ∃ AH, Hid (AH = decide (1 ≤ x.n ∧ 1 ≤ x.a ∧ x.n ≤ 1099511627776 ∧ x.a ≤ 1099511627776 ∧ x.c = 0 ∧ x.k = 0 ∧ nx = 0)) := ⟨_, hid rfl⟩
    go_upto_region 21 with fail
    go_cut [17] (fun av wx => av = .bool AH ∧ wx = wc)
    case first => as_aux_lemma =>
      by_cases h0 : 1 ≤ x.n
      case neg =>
        have g0 : decide (1 ≤ x.n) = false := by simp; omega
        go_wp2_with fail
        go_meet
        exact ⟨by rw [hAH.out]; congr 1; symm; rw [decide_eq_false_iff_not]; intro hh; omega, rfl⟩
      have g0 : decide (1 ≤ x.n) = true := by simp; omega
      by_cases h1 : 1 ≤ x.a
      case neg =>
        have g1 : decide (1 ≤ x.a) = false := by simp; omega
        go_wp2_with fail
        go_meet
        exact ⟨by rw [hAH.out]; congr 1; symm; rw [decide_eq_false_iff_not]; intro hh; omega, rfl⟩
      have g1 : decide (1 ≤ x.a) = true := by simp; omega
      by_cases h2 : x.n ≤ 1099511627776
      case neg =>
        have g2 : decide (x.n ≤ 1099511627776) = false := by simp; omega
        go_wp2_with fail
        go_meet
        exact ⟨by rw [hAH.out]; congr 1; symm; rw [decide_eq_false_iff_not]; intro hh; omega, rfl⟩
      have g2 : decide (x.n ≤ 1099511627776) = true := by simp; omega
      by_cases h3 : x.a ≤ 1099511627776
      case neg =>
        have g3 : decide (x.a ≤ 1099511627776) = false := by simp; omega
        go_wp2_with fail
        go_meet
        exact ⟨by rw [hAH.out]; congr 1; symm; rw [decide_eq_false_iff_not]; intro hh; omega, rfl⟩
      have g3 : decide (x.a ≤ 1099511627776) = true := by simp; omega
      by_cases h4 : x.c = 0
      case neg =>
        have g4 : (x.c == 0) = false := by simp; omega
        go_wp2_with fail
        go_meet
        exact ⟨by rw [hAH.out]; congr 1; symm; rw [decide_eq_false_iff_not]; intro hh; omega, rfl⟩
      have g4 : (x.c == 0) = true := by simp; omega
      by_cases h5 : x.k = 0
      case neg =>
        have g5 : (x.k == 0) = false := by simp; omega
        go_wp2_with fail
        go_meet
        exact ⟨by rw [hAH.out]; congr 1; symm; rw [decide_eq_false_iff_not]; intro hh; omega, rfl⟩
      have g5 : (x.k == 0) = true := by simp; omega
      by_cases h6 : nx = 0
      case neg =>
        have g6 : ((nx : Int) == 0) = false := by simp; omega
        go_wp2_with fail
        go_meet
        exact ⟨by rw [hAH.out]; congr 1; symm; rw [decide_eq_false_iff_not]; intro hh; omega, rfl⟩
      have g6 : ((nx : Int) == 0) = true := by simp; omega
      go_wp2_with fail
      go_meet
      exact ⟨by rw [hAH.out]; congr 1; symm; rw [decide_eq_true_iff]; omega, rfl⟩
    case rest => as_aux_lemma =>
    obtain ⟨rfl, rfl⟩ := hcut
    go_upto_region 22 with fail
    go_cut [10, 11, 17, 217] (fun v1 v2 v3 cv wx => v1 = .bool p.on ∧ v2 = .int .i64 E ∧ v3 = .bool AH ∧ cv = .bool false ∧ ∃ q, wx = wc.drewN q)
    case first => as_aux_lemma =>
      have AHF : Hid (AH = true → may x.n x.a x.c x.k x.l = true) := hid (fun h => by
        rw [hAH.out] at h
        simp only [decide_eq_true_eq] at h
        have hl : x.l = [] := List.eq_nil_of_length_eq_zero (by rw [← hnx.out]; omega)
        simp [may, chkX, hl, h])
      cases hA : AH with
      | false =>
        have HH := hid hA
        clear hA
        go_wp2_with fail
        go_quiet (fail)
        go_wp2_with fail
        go_meet
        exact ⟨rfl, rfl, by rw [HH.out], rfl, _, rfl⟩
      | true =>
        cases hon : p.on with
        | false =>
          rcases FA.out with ⟨hE0, hpp, hf⟩ | ⟨hE0, hon2, hn, ha, hc, hk, hl, hr⟩
          · have := (hf (AHF.out hA)).1
            rw [hon] at this; cases this
          · have e0 : (E != 0) = false := by simpa using hE0
            have HH := hid (And.intro hA hon)
            clear hA hon hE0 hon2 hn ha hc hk hl hr
            go_wp2_with fail
            go_quiet (fail)
            go_wp2_with fail
            go_meet
            exact ⟨by rw [HH.out.2], rfl, by rw [HH.out.1], rfl, _, rfl⟩
        | true =>
          rcases FA.out with ⟨hE0, hpp, hf⟩ | ⟨hE0, hon2, hn, ha, hc, hk, hl, hr⟩
          · have hff := (hf (AHF.out hA)).2
            have e0 : (E != 0) = true := by simpa using hE0
            by_cases h1 : p.n < x.n
            · have r1 : decide (p.n < x.n) = true := by simpa using h1
              have r2 : decide (p.a < x.a) = false := by simp; omega
              have HH := hid (And.intro hA hon)
              clear hA hon hE0 hpp hf hff h1
              go_wp2_with fail
              go_quiet (fail)
              go_wp2_with fail
              go_meet
              exact ⟨by rw [HH.out.2], rfl, by rw [HH.out.1], rfl, _, rfl⟩
            · have r1 : decide (p.n < x.n) = false := by simpa using h1
              have HH := hid (And.intro hA hon)
              clear hA hon hE0 hpp hf hff h1
              go_wp2_with fail
              go_quiet (fail)
              go_wp2_with fail
              go_meet
              exact ⟨by rw [HH.out.2], rfl, by rw [HH.out.1], rfl, _, rfl⟩
          · have e0 : (E != 0) = false := by simpa using hE0
            have hrr := hr hon
            have r1 : decide (p.n < x.n) = true := by simp; omega
            have r2 : decide (p.a < x.a) = true := by simp; omega
            have HH := hid (And.intro hA hon)
            clear hA hon hE0 hon2 hn ha hc hk hl hr hrr
            go_wp2_with fail
            go_quiet (fail)
            go_wp2_with fail
            go_meet
            exact ⟨by rw [HH.out.2], rfl, by rw [HH.out.1], rfl, _, rfl⟩
    case rest => as_aux_lemma =>
    obtain ⟨rfl, rfl, rfl, rfl, q, rfl⟩ := hcut
    have A12 := hid ((A11.out.drewN q).sublist (ds := rollL g ps2 ++ [inC w]) (List.Sublist.append (.refl _) (.cons _ (.cons _ (.cons _ (.cons _ (.refl _)))))))
    clear q0 q1 q2 q3 q4 o0 o1 o2 o3 o4 y0 y1 y2 y3 y4
    go_wp2
    go_roundw
    case rel => exact ⟨⟨i + 1, ps2, by go_num, by omega, hid ⟨OKH.out, A12.out⟩⟩⟩
    case measure => simp [intOf]; omega

end Go.Proofs.Ytagdpfghooogfaa
