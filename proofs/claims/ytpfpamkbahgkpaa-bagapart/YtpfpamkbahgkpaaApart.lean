import Derived.Test.YtpfpamkbahgkpaaApt
namespace Go.Proofs.Ytpfpamkbahgkpaa
open Go.RowKit
set_option linter.unusedVariables false

theorem OpsAt.at2 {w : World} {g o n c : Nat} {xs : List OpV} (h : OpsAt w (.slice (some ⟨g, o, none⟩) n c) xs) {i : Nat} {x : OpV} (hx : xs[i]? = some x) : opAt w g (o + i * 6) x ∧ Reads w (.slice x.ao x.o.d.length x.c) x.o.d ∧ x.o.d.length ≤ 140737488351232 := by
  obtain ⟨g', o', e, hg, h1, h2, h3⟩ := h.at hx
  simp only [Option.some.injEq, Addr.mk.injEq, and_true] at e
  obtain ⟨rfl, rfl⟩ := e
  exact ⟨h1, h2, h3⟩

theorem Bags.small {w : World} {pre post : List (Nat × AB)} {b : Nat} {A : AB} {k : Nat} {cs : List Comp} (h : Bags w (pre ++ (b, A) :: post) k cs) : A.ps.length ≤ 1024 := by
  obtain ⟨P, Bs, h1, h2, h3⟩ := h.ex
  obtain ⟨p, B, q, rfl, rfl, hB, rfl⟩ := map_split h1
  simp only [Prod.mk.injEq] at hB
  obtain ⟨rfl, rfl⟩ := hB
  exact (h2 B (by simp)).2.small

set_option maxHeartbeats 6400000 in
set_option maxRecDepth 1000000 in
theorem apart_loop {f h t : List OpV} {v1 v2 v3 : Value} {r : Int} {w : World} (hf : OpsAt w v1 f) (hh : OpsAt w v2 h) (ht : OpsAt w v3 t) (lf : f.length * 64 ≤ 140737488351232) (lh : h.length * 64 ≤ 140737488351232) (lt : t.length * 64 ≤ 140737488351232) (h1 : 1 ≤ r) (h2 : r ≤ 1024) :
    Calls Try.prog 7 #[.agg #[.int .i64 r, v1, v2, v3]] w fun e w' => e = .returned (.bool true) ∧ Below w.heap.size w w' := by
  have HF := hid hf
  have HH := hid hh
  have HT := hid ht
  obtain ⟨o1, c1, e1, _⟩ := hf
  obtain ⟨o2, c2, e2, _⟩ := hh
  obtain ⟨o3, c3, e3, _⟩ := ht
  subst e1 e2 e3
  obtain ⟨n1, hn1⟩ : ∃ n, Hid (n = f.length) := ⟨_, hid rfl⟩
  obtain ⟨n2, hn2⟩ : ∃ n, Hid (n = h.length) := ⟨_, hid rfl⟩
  obtain ⟨n3, hn3⟩ : ∃ n, Hid (n = t.length) := ⟨_, hid rfl⟩
  rw [← hn1.out] at HF lf ⊢
  rw [← hn2.out] at HH lh ⊢
  rw [← hn3.out] at HT lt ⊢
  have C0 := hid (shown_any ((All.came w).addBlk [.int .i64 r, .slice o1 n1 c1, .slice o2 n2 c2, .slice o3 n3 c3] 65))
  have h1' : ¬ r < 1 := by omega
  have h2' : ¬ 1024 < r := by omega
  go_enter Try.func7, Try.ntmps7
  go_wp2_with fail
  refine C0.out.mono ?_
  rintro e w0 ⟨rfl, A0⟩
  obtain ⟨cs, hcs⟩ : ∃ cs, Hid (cs = [blkC w.heap.size [.int .i64 r, .slice o1 n1 c1, .slice o2 n2 c2, .slice o3 n3 c3] 65, inC w]) := ⟨_, hid rfl⟩
  have hin : Hid (inC w ∈ cs) := hid (by rw [hcs.out]; simp)
  have k0 : w0.cell? ⟨w.heap.size, 0, none⟩ = some (.int .i64 r) := by rw [cell_at A0.1.2.1]; rfl
  have k1 : w0.cell? ⟨w.heap.size, 1, none⟩ = some (.slice o1 n1 c1) := by rw [cell_at A0.1.2.1]; rfl
  have k2 : w0.cell? ⟨w.heap.size, 2, none⟩ = some (.slice o2 n2 c2) := by rw [cell_at A0.1.2.1]; rfl
  have k3 : w0.cell? ⟨w.heap.size, 3, none⟩ = some (.slice o3 n3 c3) := by rw [cell_at A0.1.2.1]; rfl
  have B0 : Hid (Bags w0 [] 0 cs) := hid (by rw [hcs.out]; exact Bags.empty A0)
  have C1 := hid (B0.out.new h1 h2)
  clear C0 A0 hcs
  go_wp2_with fail
  refine C1.out.mono ?_
  rintro e w1 ⟨b, rfl, B1⟩
  have C2 := hid (B1.new h1 h2)
  clear C1 B1 B0 k0 k1 k2 k3
  go_wp2_with fail
  refine C2.out.mono ?_
  rintro e w2 ⟨p, rfl, B2⟩
  obtain ⟨A0, hA0⟩ : ∃ A0, Hid (A0 = AB.mk r 0 []) := ⟨_, hid rfl⟩
  rw [← hA0.out] at B2
  have B2 := hid B2
  clear C2
  go_wp2
  go_loopw [11] (fun iv wr => ∃ (i : Nat), i ≤ n1 ∧ iv = .int .i64 (i : Int) ∧ Hid (Bags wr [(p, A0.run (f.take i)), (b, A0.run (f.take i))] (2 * i) cs)) (fun iv _ => n1 - (intOf iv).toNat)
  case atStart => exact ⟨0, by omega, rfl, hid (by simpa [AB.run] using B2.out)⟩
  case round =>
    clear B2
    obtain ⟨i, hi, rfl, B⟩ := hrel
    by_cases hlt : i < n1
    · obtain ⟨x, hx⟩ : ∃ x, f[i]? = some x := ⟨_, List.getElem?_eq_getElem (by rw [← hn1.out]; exact hlt)⟩
      obtain ⟨g, go, eg, hg, ⟨s1, s2, s3, s4, s5, s6⟩, hrd, hdl⟩ := (HF.out.later (B.out.into hin.out)).at hx
      subst eg
      have hii : (i : Int) < (n1 : Int) := by omega
      have C3 := hid (Bags.one (pre := [(p, A0.run (f.take i))]) (post := []) (o := x.o) B.out (by omega) hrd (by omega))
      generalize (A0.run (f.take i)).oneE x.o = E at C3
      have HX := hid hx
      have AR := hid (AB.run_next A0 f hx)
      clear B hrd hx
      go_wp2_with fail
      refine C3.out.mono ?_
      rintro e w3 ⟨rfl, B3⟩
      clear C3 s1 s2 s3 s4 s5 s6
      obtain ⟨⟨s1, s2, s3, s4, s5, s6⟩, hrd, -⟩ := (HF.out.later (B3.into hin.out)).at2 HX.out
      have C4 := hid (Bags.one (pre := []) (post := [(b, (A0.run (f.take i)).one x.o)]) (o := x.o) B3 (by omega) hrd (by omega))
      generalize (A0.run (f.take i)).oneE x.o = E2 at C4
      clear B3 hrd
      go_wp2_with fail
      refine C4.out.mono ?_
      rintro e w4 ⟨rfl, B4⟩
      have B5 : Hid (Bags w4 [(p, A0.run (f.take (i + 1))), (b, A0.run (f.take (i + 1)))] (2 * (i + 1)) cs) := hid (by rw [AR.out]; exact B4.more (by omega))
      clear C4 B4 s1 s2 s3 s4 s5 s6
      go_wp2
      go_roundw
      case rel => exact ⟨i + 1, by omega, by go_num, B5⟩
      case measure => simp [intOf]; omega
    · have hin1 : i = n1 := by omega
      obtain ⟨A1, hA1⟩ : ∃ A1, Hid (A1 = A0.run f) := ⟨_, hid rfl⟩
      have B3 := B.out
      rw [AB.run_all A0 f (by rw [← hn1.out]; omega), ← hA1.out] at B3
      have C3 := hid (Bags.clone (pre := [(p, A1)]) (post := []) B3)
      obtain ⟨K, hK⟩ : ∃ K, Hid (K = 2 * i) := ⟨_, hid rfl⟩
      rw [← hK.out] at C3
      have hKl : K ≤ 2 * n1 := by rw [hK.out]; omega
      clear B B3 hin1
      go_wp2_with fail
      refine C3.out.mono ?_
      rintro e w3 ⟨c, rfl, B4⟩
      have C4 := hid (Bags.list (pre := []) (post := [(p, A1), (b, A1)]) B4)
      clear C3 B4
      go_wp2_with fail
      refine C4.out.mono ?_
      rintro e w4 ⟨H, m, ds, rfl, -, L4, B5⟩
      have L4 := hid L4
      have B5 := hid B5
      clear C4
      go_wp2
      go_loopw [14] (fun jv wz => ∃ (j : Nat), (j ≤ n2 ∨ j ≤ n3) ∧ jv = .int .i64 (j : Int) ∧ Hid (Bags wz [(c, A1.run (t.take j)), (p, A1.run (h.take j)), (b, A1.run (h.take j))] (K + 3 * j) (ds ++ cs))) (fun jv _ => n2 + n3 - (intOf jv).toNat)
      case atStart => exact ⟨0, by omega, rfl, hid (by simpa [AB.run] using B5.out)⟩
      case round =>
        clear B5
        obtain ⟨j, hj, rfl, B⟩ := hrel
        by_cases hl2 : j < n2
        · by_cases hl3 : j < n3
          · obtain ⟨x, hx⟩ : ∃ x, h[j]? = some x := ⟨_, List.getElem?_eq_getElem (by rw [← hn2.out]; exact hl2)⟩
            obtain ⟨g, go, eg, hg, ⟨s1, s2, s3, s4, s5, s6⟩, hrd, hdl⟩ := (HH.out.later (B.out.into (by simp [hin.out]))).at hx
            subst eg
            have hii : (j : Int) < (n2 : Int) := by omega
            have C5 := hid (Bags.one (pre := [(c, A1.run (t.take j)), (p, A1.run (h.take j))]) (post := []) (o := x.o) B.out (by omega) hrd (by omega))
            obtain ⟨E, hE⟩ : ∃ E, Hid (E = (A1.run (h.take j)).oneE x.o) := ⟨_, hid rfl⟩
            rw [← hE.out] at C5
            have HX := hid hx
            have AR := hid (AB.run_next A1 h hx)
            clear B hrd hx hg
            go_wp2_with fail
            refine C5.out.mono ?_
            rintro e w5 ⟨rfl, B6⟩
            clear C5 s1 s2 s3 s4 s5 s6
            obtain ⟨⟨s1, s2, s3, s4, s5, s6⟩, hrd, -⟩ := (HH.out.later (B6.into (by simp [hin.out]))).at2 HX.out
            have C6 := hid (Bags.one (pre := [(c, A1.run (t.take j))]) (post := [(b, (A1.run (h.take j)).one x.o)]) (o := x.o) B6 (by omega) hrd (by omega))
            rw [← hE.out] at C6
            clear B6 hrd
            have hEE : (E != E) = false := by simp
            go_wp2_with fail
            refine C6.out.mono ?_
            rintro e w6 ⟨rfl, B7⟩
            have B7 : Hid (Bags w6 [(c, A1.run (t.take j)), (p, A1.run (h.take (j + 1))), (b, A1.run (h.take (j + 1)))] (K + 3 * j + 1 + 1) (ds ++ cs)) := hid (by rw [AR.out]; exact B7)
            clear C6 s1 s2 s3 s4 s5 s6
            obtain ⟨y, hy⟩ : ∃ y, t[j]? = some y := ⟨_, List.getElem?_eq_getElem (by rw [← hn3.out]; exact hl3)⟩
            obtain ⟨g', go', eg', hg', ⟨s1, s2, s3, s4, s5, s6⟩, hrd, hdl'⟩ := (HT.out.later (B7.out.into (by simp [hin.out]))).at hy
            subst eg'
            have hii3 : (j : Int) < (n3 : Int) := by omega
            have C7 := hid (Bags.one (pre := []) (post := [(p, A1.run (h.take (j + 1))), (b, A1.run (h.take (j + 1)))]) (o := y.o) B7.out (by omega) hrd (by omega))
            generalize (A1.run (t.take j)).oneE y.o = E7 at C7
            have AR3 := hid (AB.run_next A1 t hy)
            clear B7 hrd hy hg'
            go_wp2_with fail
            refine C7.out.mono ?_
            rintro e w7 ⟨rfl, B8⟩
            have B9 : Hid (Bags w7 [(c, A1.run (t.take (j + 1))), (p, A1.run (h.take (j + 1))), (b, A1.run (h.take (j + 1)))] (K + 3 * (j + 1)) (ds ++ cs)) := hid (by rw [AR3.out]; exact B8.more (by omega))
            clear C7 B8 s1 s2 s3 s4 s5 s6
            go_wp2
            go_roundw
            case rel => exact ⟨j + 1, by omega, by go_num, B9⟩
            case measure => simp [intOf]; omega
          · have hii3 : ¬ (j : Int) < (n3 : Int) := by omega
            obtain ⟨x, hx⟩ : ∃ x, h[j]? = some x := ⟨_, List.getElem?_eq_getElem (by rw [← hn2.out]; exact hl2)⟩
            obtain ⟨g, go, eg, hg, ⟨s1, s2, s3, s4, s5, s6⟩, hrd, hdl⟩ := (HH.out.later (B.out.into (by simp [hin.out]))).at hx
            subst eg
            have hii : (j : Int) < (n2 : Int) := by omega
            have C5 := hid (Bags.one (pre := [(c, A1.run (t.take j)), (p, A1.run (h.take j))]) (post := []) (o := x.o) B.out (by omega) hrd (by omega))
            obtain ⟨E, hE⟩ : ∃ E, Hid (E = (A1.run (h.take j)).oneE x.o) := ⟨_, hid rfl⟩
            rw [← hE.out] at C5
            have HX := hid hx
            have AR := hid (AB.run_next A1 h hx)
            clear B hrd hx hg
            go_wp2_with fail
            refine C5.out.mono ?_
            rintro e w5 ⟨rfl, B6⟩
            clear C5 s1 s2 s3 s4 s5 s6
            obtain ⟨⟨s1, s2, s3, s4, s5, s6⟩, hrd, -⟩ := (HH.out.later (B6.into (by simp [hin.out]))).at2 HX.out
            have C6 := hid (Bags.one (pre := [(c, A1.run (t.take j))]) (post := [(b, (A1.run (h.take j)).one x.o)]) (o := x.o) B6 (by omega) hrd (by omega))
            rw [← hE.out] at C6
            clear B6 hrd
            have hEE : (E != E) = false := by simp
            go_wp2_with fail
            refine C6.out.mono ?_
            rintro e w6 ⟨rfl, B7⟩
            have B7 : Hid (Bags w6 [(c, A1.run (t.take j)), (p, A1.run (h.take (j + 1))), (b, A1.run (h.take (j + 1)))] (K + 3 * j + 1 + 1) (ds ++ cs)) := hid (by rw [AR.out]; exact B7)
            clear C6 s1 s2 s3 s4 s5 s6
            have B9 : Hid (Bags w6 [(c, A1.run (t.take (j + 1))), (p, A1.run (h.take (j + 1))), (b, A1.run (h.take (j + 1)))] (K + 3 * (j + 1)) (ds ++ cs)) := hid (by
              have e1 : A1.run (t.take (j + 1)) = A1.run (t.take j) := by rw [AB.run_all A1 t (by rw [← hn3.out]; omega), AB.run_all A1 t (by rw [← hn3.out]; omega)]
              rw [e1]; exact B7.out.more (by omega))
            clear B7
            go_wp2
            go_roundw
            case rel => exact ⟨j + 1, by omega, by go_num, B9⟩
            case measure => simp [intOf]; omega
        · by_cases hl3 : j < n3
          · have hii2 : ¬ (j : Int) < (n2 : Int) := by omega
            have B7 : Hid (Bags wr [(c, A1.run (t.take j)), (p, A1.run (h.take (j + 1))), (b, A1.run (h.take (j + 1)))] (K + 3 * j + 1 + 1) (ds ++ cs)) := hid (by
              have e1 : A1.run (h.take (j + 1)) = A1.run (h.take j) := by rw [AB.run_all A1 h (by rw [← hn2.out]; omega), AB.run_all A1 h (by rw [← hn2.out]; omega)]
              rw [e1]; exact B.out.more (by omega))
            clear B
            obtain ⟨y, hy⟩ : ∃ y, t[j]? = some y := ⟨_, List.getElem?_eq_getElem (by rw [← hn3.out]; exact hl3)⟩
            obtain ⟨g', go', eg', hg', ⟨s1, s2, s3, s4, s5, s6⟩, hrd, hdl'⟩ := (HT.out.later (B7.out.into (by simp [hin.out]))).at hy
            subst eg'
            have hii3 : (j : Int) < (n3 : Int) := by omega
            have C7 := hid (Bags.one (pre := []) (post := [(p, A1.run (h.take (j + 1))), (b, A1.run (h.take (j + 1)))]) (o := y.o) B7.out (by omega) hrd (by omega))
            generalize (A1.run (t.take j)).oneE y.o = E7 at C7
            have AR3 := hid (AB.run_next A1 t hy)
            clear B7 hrd hy hg'
            go_wp2_with fail
            refine C7.out.mono ?_
            rintro e w7 ⟨rfl, B8⟩
            have B9 : Hid (Bags w7 [(c, A1.run (t.take (j + 1))), (p, A1.run (h.take (j + 1))), (b, A1.run (h.take (j + 1)))] (K + 3 * (j + 1)) (ds ++ cs)) := hid (by rw [AR3.out]; exact B8.more (by omega))
            clear C7 B8 s1 s2 s3 s4 s5 s6
            go_wp2
            go_roundw
            case rel => exact ⟨j + 1, by omega, by go_num, B9⟩
            case measure => simp [intOf]; omega
          · have hii2 : ¬ (j : Int) < (n2 : Int) := by omega
            have hii3 : ¬ (j : Int) < (n3 : Int) := by omega
            obtain ⟨A2, hA2⟩ : ∃ A2, Hid (A2 = A1.run h) := ⟨_, hid rfl⟩
            obtain ⟨A3, hA3⟩ : ∃ A3, Hid (A3 = A1.run t) := ⟨_, hid rfl⟩
            have B6 := B.out
            rw [AB.run_all A1 h (by rw [← hn2.out]; omega), AB.run_all A1 t (by rw [← hn3.out]; omega), ← hA2.out, ← hA3.out] at B6
            obtain ⟨K2, hK2⟩ : ∃ K2, Hid (K2 = K + 3 * j) := ⟨_, hid rfl⟩
            rw [← hK2.out] at B6
            have hK2l : K2 ≤ 2 * n1 + 3 * (n2 + n3) := by rw [hK2.out]; omega
            have C5 := hid (Bags.list (pre := [(c, A3), (p, A2)]) (post := []) B6)
            clear B B6 hj
            go_wp2_with fail
            refine C5.out.mono ?_
            rintro e w5 ⟨H5, m5, d5, rfl, -, L5, B7⟩
            have C6 := hid (Bags.list (pre := [(c, A3)]) (post := [(b, A2)]) B7)
            have L5 := hid L5
            clear C5 B7
            go_wp2_with fail
            refine C6.out.mono ?_
            rintro e w6 ⟨H6, m6, d6, rfl, -, L6, B8⟩
            have C7 := hid (B8.same (L5.out.mono (fun z hz => by simp [hz])) (L6.mono (fun z hz => by simp [hz])) (Bags.small (pre := [(c, A3)]) (post := [(b, A2)]) B8))
            clear C6 L6 B8
            go_wp2_with fail
            refine C7.out.mono ?_
            rintro e w7 ⟨rfl, B9⟩
            have C8 := hid (B9.new h1 h2)
            clear C7 B9
            go_wp2_with fail
            refine C8.out.mono ?_
            rintro e w8 ⟨a, rfl, B10⟩
            obtain ⟨ds2, hds2⟩ : ∃ ds2, Hid (ds2 = d6 ++ (d5 ++ (ds ++ cs))) := ⟨_, hid rfl⟩
            rw [← hds2.out, ← hA0.out] at B10
            have hin2 : Hid (inC w ∈ ds2) := hid (by rw [hds2.out]; simp [hin.out])
            have L8 : Hid (Lst ds2 (.slice (some ⟨H, 0, none⟩) m m) A1.ps) := hid (L4.out.mono (fun z hz => by rw [hds2.out]; simp [hz]))
            have B10 := hid B10
            clear C8 L4 L5
            go_wp2
            go_loopw [19] (fun iv wz => ∃ (i : Nat), i ≤ n1 ∧ iv = .int .i64 (i : Int) ∧ Hid (Bags wz [(a, A0.run (f.take i)), (c, A3), (p, A2), (b, A2)] (K2 + i) ds2)) (fun iv _ => n1 - (intOf iv).toNat)
            case atStart => exact ⟨0, by omega, rfl, hid (by simpa [AB.run] using B10.out)⟩
            case round =>
              clear B10
              obtain ⟨i, hi, rfl, B⟩ := hrel
              by_cases hlt : i < n1
              · obtain ⟨x, hx⟩ : ∃ x, f[i]? = some x := ⟨_, List.getElem?_eq_getElem (by rw [← hn1.out]; exact hlt)⟩
                obtain ⟨g, go, eg, hg, ⟨s1, s2, s3, s4, s5, s6⟩, hrd, hdl⟩ := (HF.out.later (B.out.into hin2.out)).at hx
                subst eg
                have hii : (i : Int) < (n1 : Int) := by omega
                have C3 := hid (Bags.one (pre := []) (post := [(c, A3), (p, A2), (b, A2)]) (o := x.o) B.out (by omega) hrd (by omega))
                generalize (A0.run (f.take i)).oneE x.o = E at C3
                have AR := hid (AB.run_next A0 f hx)
                clear B hrd hx
                go_wp2_with fail
                refine C3.out.mono ?_
                rintro e w9 ⟨rfl, B3⟩
                have B5 : Hid (Bags w9 [(a, A0.run (f.take (i + 1))), (c, A3), (p, A2), (b, A2)] (K2 + (i + 1)) ds2) := hid (by rw [AR.out]; exact B3)
                clear C3 s1 s2 s3 s4 s5 s6 B3
                go_wp2
                go_roundw
                case rel => exact ⟨i + 1, by omega, by go_num, B5⟩
                case measure => simp [intOf]; omega
              · have B3 := B.out
                rw [AB.run_all A0 f (by rw [← hn1.out]; omega), ← hA1.out] at B3
                have C3 := hid (Bags.list (pre := []) (post := [(c, A3), (p, A2), (b, A2)]) B3)
                obtain ⟨K3, hK3⟩ : ∃ K3, Hid (K3 = K2 + i) := ⟨_, hid rfl⟩
                rw [← hK3.out] at C3
                have hK3l : K3 ≤ K2 + n1 := by rw [hK3.out]; omega
                clear B B3
                go_wp2_with fail
                refine C3.out.mono ?_
                rintro e w9 ⟨H9, m9, d9, rfl, -, L9, B4⟩
                have C4 := hid (B4.same (L9.mono (fun z hz => by simp [hz])) (L8.out.mono (fun z hz => by simp [hz])) (Bags.small (pre := []) (post := [(c, A3), (p, A2), (b, A2)]) B4))
                clear C3 L9 B4
                go_wp2_with fail
                refine C4.out.mono ?_
                rintro e w10 ⟨rfl, B5⟩
                have B5 := hid B5
                clear C4
                go_wp2
                go_loopw [20] (fun iv wz => ∃ (i : Nat), i ≤ n3 ∧ iv = .int .i64 (i : Int) ∧ Hid (Bags wz [(a, A1.run (t.take i)), (c, A3), (p, A2), (b, A2)] (K3 + i) (d9 ++ ds2))) (fun iv _ => n3 - (intOf iv).toNat)
                case atStart => exact ⟨0, by omega, rfl, hid (by simpa [AB.run] using B5.out)⟩
                case round =>
                  clear B5
                  obtain ⟨i, hi, rfl, B⟩ := hrel
                  by_cases hlt : i < n3
                  · obtain ⟨x, hx⟩ : ∃ x, t[i]? = some x := ⟨_, List.getElem?_eq_getElem (by rw [← hn3.out]; exact hlt)⟩
                    obtain ⟨g, go, eg, hg, ⟨s1, s2, s3, s4, s5, s6⟩, hrd, hdl⟩ := (HT.out.later (B.out.into (by simp [hin2.out]))).at hx
                    subst eg
                    have hii : (i : Int) < (n3 : Int) := by omega
                    have C3 := hid (Bags.one (pre := []) (post := [(c, A3), (p, A2), (b, A2)]) (o := x.o) B.out (by omega) hrd (by omega))
                    generalize (A1.run (t.take i)).oneE x.o = E at C3
                    have AR := hid (AB.run_next A1 t hx)
                    clear B hrd hx
                    go_wp2_with fail
                    refine C3.out.mono ?_
                    rintro e w11 ⟨rfl, B3⟩
                    have B5 : Hid (Bags w11 [(a, A1.run (t.take (i + 1))), (c, A3), (p, A2), (b, A2)] (K3 + (i + 1)) (d9 ++ ds2)) := hid (by rw [AR.out]; exact B3)
                    clear C3 s1 s2 s3 s4 s5 s6 B3
                    go_wp2
                    go_roundw
                    case rel => exact ⟨i + 1, by omega, by go_num, B5⟩
                    case measure => simp [intOf]; omega
                  · have B3 := B.out
                    rw [AB.run_all A1 t (by rw [← hn3.out]; omega), ← hA3.out] at B3
                    have C3 := hid (Bags.list (pre := []) (post := [(c, A3), (p, A2), (b, A2)]) B3)
                    clear B B3
                    go_wp2_with fail
                    refine C3.out.mono ?_
                    rintro e w11 ⟨H11, m11, d11, rfl, -, L11, B4⟩
                    have C4 := hid (Bags.list (pre := [(a, A3)]) (post := [(p, A2), (b, A2)]) B4)
                    have L11 := hid L11
                    clear C3 B4
                    go_wp2_with fail
                    refine C4.out.mono ?_
                    rintro e w12 ⟨H12, m12, d12, rfl, -, L12, B5⟩
                    have C5 := hid (B5.same (L11.out.mono (fun z hz => by simp [hz])) (L12.mono (fun z hz => by simp [hz])) (Bags.small (pre := [(a, A3)]) (post := [(p, A2), (b, A2)]) B5))
                    clear C4 L12 B5
                    go_wp2_with fail
                    refine C5.out.mono ?_
                    rintro e w13 ⟨rfl, B6⟩
                    have BW := hid (B6.into (w0 := w) (by simp [hin2.out]))
                    clear C5 B6
                    go_wp2
                    go_ret
                    exact ⟨rfl, BW.out⟩
end Go.Proofs.Ytpfpamkbahgkpaa
