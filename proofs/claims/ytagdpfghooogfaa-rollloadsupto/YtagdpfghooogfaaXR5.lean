import Derived.Test.YtagdpfghooogfaaXR4
namespace Go.Proofs.Ytagdpfghooogfaa
open Go.RowKit
set_option linter.unusedVariables false

/-- A list that is none. -/
theorem owns_none (w : World) (base : Nat) : w.ownsRow base 5 1 (.slice none 0 0) 0 (cellsB []) := ⟨rfl, Or.inl ⟨rfl, rfl⟩⟩

theorem runR_look (rs : List UInt8) (most : Int) (n sz er : Nat) (h : look 9 127 0 rs 0 = (n, sz, er)) :
    runR rs most = if er = 0 then (if most < (n : Int) then ([], sz, 14) else if rs.length - sz < n then ([], sz, 10) else ((rs.drop sz).take n, sz + n, 0)) else ([], sz, (er : Int)) := by
  rw [runR_eq, numR_eq, h]
  by_cases he : er = 0
  · subst he
    by_cases hm : most < (n : Int)
    · simp [hm]
    · by_cases hl : rs.length - sz < n
      · simp [hm, hl]
      · simp [hm, hl]
  · simp [he]

/-- The bytes of an item. -/
theorem XR.bytes {w : World} {b g c n : Nat} {B : List UInt8} {at_ : Nat} {e : Int} (h : XR w b (.slice (some ⟨g, 0, none⟩) n c) B at_ e) (f m : Nat) (hm : f + m ≤ B.length) :
    ∀ j u, (cellsB ((B.drop f).take m))[j]? = some u → w.cell? ((⟨g, f, none⟩ : Addr).add j) = some u := by
  intro j u hu
  have hc := World.ownsRow.cells h.row (g := g) rfl (f + j) u
  rw [Addr.add_lit]
  have : (⟨g, f + j, none⟩ : Addr) = (⟨g, 0, none⟩ : Addr).add (f + j) := by rw [Addr.add_lit, Nat.zero_add]
  rw [this]
  refine hc ?_
  rw [cellsB, List.getElem?_map, Option.map_eq_some_iff] at hu
  obtain ⟨x, hx, rfl⟩ := hu
  rw [List.getElem?_take] at hx
  split at hx
  · rw [List.getElem?_drop] at hx
    simp [cellsB, hx]
  · cases hx

theorem xbytes_fin {w w5 w' : World} {b : Nat} {v : Value} {B rs l : List UInt8} {place n cap' : Nat} {ao' : Option Addr} {r : Nat × Int} (R : XAft w w5 b v B rs place 0 r) (hs5 : w5.heap.size = w.heap.size) (ho : w'.ownsRow w.heap.size 5 1 (.slice ao' (0 + n) cap') (0 + n) ([] ++ cellsB l)) (hg : (w5.alloc (.cells #[] 5)).drew.grownBy w' (Value.slice (some ⟨w.heap.size, 0, none⟩) 0 0).ownBlock) : w'.ownsRow w.heap.size 5 1 (.slice ao' n cap') n (cellsB l) ∧ XAft w w' b v B rs place 0 r := by
  rw [Nat.zero_add, List.nil_append] at ho
  refine ⟨ho, R.below ?_⟩
  have h0 : Below w5.heap.size w5 (w5.alloc (.cells #[] 5)).drew := by
    have h : Below w5.heap.size w5 (w5.alloc (.cells #[] 5)) := (Below.refl _ _).alloc (Nat.le_refl _) _
    exact ⟨h.os, h.tape, h.output, h.size, h.block⟩
  refine h0.grown hg (by simp) (fun k hk => ?_)
  simp [Value.ownBlock] at hk
  omega

theorem cut2_run (g t n c len : Nat) (l h : Int) (hl : l = (t : Int)) (hh : h = (t : Int) + (n : Int)) (hc : t + n ≤ c) (hne : c ≠ t) (w : World) : (Instr.slice 40 (.slice (some ⟨g, 0, none⟩) len c) (some (.int .i64 l)) (some (.int .i64 h)) none).run Try.prog w = .ok (.slice (some ⟨g, t, none⟩) n (c - t)) w := by
  rw [run_slice_lh w 40 (some ⟨g, 0, none⟩) len c (by kernel_rfl) .i64 .i64 l h (by omega) (by omega) (by omega)]
  have hs : (sizeOf (Try.prog.elem 40)).run Try.prog w = .ok 1 w := by kernel_rfl
  have e1 : l.toNat = t := by omega
  have e2 : h.toNat = t + n := by omega
  rw [hs, e1, e2]
  simp [sliced, Result.andThen, Addr.add_lit, hne]

theorem cut2_run_end (g t n c len : Nat) (l h : Int) (hl : l = (t : Int)) (hh : h = (t : Int) + (n : Int)) (hc : t + n ≤ c) (he : c = t) (w : World) : (Instr.slice 40 (.slice (some ⟨g, 0, none⟩) len c) (some (.int .i64 l)) (some (.int .i64 h)) none).run Try.prog w = .ok (.slice (some ⟨g, 0, none⟩) n (c - t)) w := by
  rw [run_slice_lh w 40 (some ⟨g, 0, none⟩) len c (by kernel_rfl) .i64 .i64 l h (by omega) (by omega) (by omega)]
  have hs : (sizeOf (Try.prog.elem 40)).run Try.prog w = .ok 1 w := by kernel_rfl
  have e1 : l.toNat = t := by omega
  have e2 : h.toNat = t + n := by omega
  rw [hs, e1, e2]
  simp [sliced, Result.andThen, he]

set_option maxHeartbeats 1600000 in
set_option maxRecDepth 1000000 in
theorem xBytes_any {w : World} {b : Nat} {v : Value} {B rs : List UInt8} {place : Nat} {err : Int} (h : XRd w b v B rs place err) (hlen : B.length ≤ 140737488355328) (most : Int) :
    Calls Try.prog 80 #[.pointer (some ⟨b, 0, none⟩), .int .i64 most] w fun e w' => ∃ s, e = .returned s ∧ w'.ownsRow w.heap.size 5 1 s (runR rs most).1.length (cellsB (runR rs most).1) ∧ XAft w w' b v B rs place err (runR rs most).2 := by
  obtain ⟨ao, c, hf⟩ := h.1.form
  subst hf
  have c0 : w.cell? ⟨b, 0, none⟩ = some (.slice ao B.length c) := by rw [cell_at h.1.box]; rfl
  have c1 : w.cell? ⟨b, 1, none⟩ = some (.int .i64 (place : Int)) := by rw [cell_at h.1.box]; rfl
  have c2 : w.cell? ⟨b, 2, none⟩ = some (.int .i64 err) := by rw [cell_at h.1.box]; rfl
  have f1 := free_at h.1.box 1
  have f2 := free_at h.1.box 2
  by_cases he : err = 0
  · subst he
    have hd := h.drop
    subst hd
    have HX := hid h.1
    have hle := h.1.le
    have LB := look_bound 9 127 (by omega) (by omega) (by omega) (B.drop place) 0 0 (by omega) (by simp)
    have e0 := runR_look (B.drop place) most
    have HG := hid (xlook_any h.1 9 127 8 127 (by omega) rfl (by omega) (by omega) (by omega) (by omega) hlen)
    clear h
    generalize look 9 127 0 (B.drop place) 0 = lk at LB e0 HG
    obtain ⟨n, sz, er⟩ := lk
    replace e0 := e0 n sz er rfl
    simp only at LB HG
    obtain ⟨_, hn, hsz, hz, her, _⟩ := LB
    have hn' := hn (by omega)
    have hsz' : sz ≤ (B.drop place).length := by omega
    have hsz2 : sz ≤ B.length - place := by rw [List.length_drop] at hsz'; exact hsz'
    rw [List.length_drop] at e0
    clear hn hsz
    have HE := hid e0
    have HZ := hid hz
    clear e0 hz
    go_enter Try.func80, Try.ntmps80
    go_wp2_with fail
    refine Calls.mono HG.out ?_
    rintro e w1 ⟨rfl, q, rfl⟩
    have k1 : (B.length : Int) - (place : Int) = ((B.length - place : Nat) : Int) := by omega
    by_cases hz : er = 0
    · subst hz
      by_cases hm : most < (n : Int)
      · have F : Hid (runR (B.drop place) most = ([], sz, 14)) := by rw [HE.out]; simp [hm, Hid]
        clear k1
        go_wp2
        go_region
        go_wp2
        go_ret
        rw [F.out]
        exact ⟨_, rfl, owns_none _ _, HX.out.bad sz (q + 1) 14 (by omega)⟩
      · by_cases hl : B.length - place - sz < n
        · have F : Hid (runR (B.drop place) most = ([], sz, 10)) := by rw [HE.out]; simp [hm, hl, Hid]
          have hl2 : (B.length : Int) - (place : Int) - (sz : Int) < (n : Int) := by omega
          clear k1 hl
          go_wp2
          go_region
          go_wp2
          go_ret
          rw [F.out]
          exact ⟨_, rfl, owns_none _ _, HX.out.bad sz (q + 1) 10 (by omega)⟩
        · have F : Hid (runR (B.drop place) most = (((B.drop place).drop sz).take n, sz + n, 0)) := by rw [HE.out]; simp [hm, hl, Hid]
          have hl2 : ¬ ((B.length : Int) - (place : Int) - (sz : Int) < (n : Int)) := by omega
          have R : Hid (XAft w ((w.drewN (q + 1)).setCell ⟨b, 1, none⟩ (.int .i64 ((place : Int) + (sz : Int) + (n : Int)))) b (.slice ao B.length c) B (B.drop place) place 0 (sz + n, 0)) := HX.out.went (sz + n) (q + 1) (by rw [List.length_drop]; omega) _ (by omega)
          obtain ⟨g, rfl⟩ : ∃ g, ao = some ⟨g, 0, none⟩ := by
            have hs0 : 0 < sz := by omega
            rcases HX.out.row.2 with ⟨e, e0⟩ | ⟨g, cap, _, ev, _⟩
            · omega
            · simp only [Value.slice.injEq] at ev
              exact ⟨g, ev.1⟩
          have hcap : B.length ≤ c := by
            rcases HX.out.row.2 with ⟨e, e0⟩ | ⟨g, cap, _, ev, _, _, hh, _⟩
            · omega
            · simp only [Value.slice.injEq] at ev
              omega
          obtain ⟨i0, hi, hz0, hz1, hz2⟩ := info_parts Try.info5
          clear k1 hl
          go_wp2
          go_region
          go_wp2_with fail
          have hs5 : ((w.drewN (q + 1)).setCell ⟨b, 1, none⟩ (.int .i64 ((place : Int) + (sz : Int) + (n : Int)))).heap.size = w.heap.size := by simp [World.setCell]
          have e5 : ((w.drewN q).drew.setCell ⟨b, 1, none⟩ (.int .i64 ((place : Int) + (sz : Int) + (n : Int)))) = ((w.drewN (q + 1)).setCell ⟨b, 1, none⟩ (.int .i64 ((place : Int) + (sz : Int) + (n : Int)))) := rfl
          first | rw [e5] | skip
          generalize ((w.drewN (q + 1)).setCell ⟨b, 1, none⟩ (.int .i64 ((place : Int) + (sz : Int) + (n : Int)))) = w5 at *
          have hbl : b < w5.heap.size := R.out.1.1.lt
          have k0 : w5.cell? ⟨b, 0, none⟩ = some (.slice (some ⟨g, 0, none⟩) B.length c) := by rw [cell_at R.out.1.1.box]; rfl
          have k1 : w5.cell? ⟨b, 1, none⟩ = some (.int .i64 ((place : Int) + (sz : Int) + (n : Int))) := by rw [cell_at R.out.1.1.box]; simp [aft]; omega
          have h0 : (w5.alloc (.cells #[] 5)).drew.ownsRow w.heap.size 5 1 (.slice (some ⟨w.heap.size, 0, none⟩) 0 0) 0 [] := by
            rw [← hs5]
            exact World.ownsRow_made w5 #[] 0 (Nat.le_refl _) (by unfold maxLen; omega) rfl
          have HN : Hid (∀ j u, (cellsB ((B.drop (place + sz)).take n))[j]? = some u → (w5.alloc (.cells #[] 5)).drew.cell? ((⟨g, place + sz, none⟩ : Addr).add j) = some u) := by
            intro j u hu
            have := R.out.1.1.bytes (place + sz) n (by omega) j u hu
            have hg : g < w5.heap.size := R.out.1.1.own_lt g rfl
            show (w5.alloc (.cells #[] 5)).cell? _ = _
            rw [Addr.add_lit] at this ⊢
            rw [World.cell?_alloc_past _ _ _ hg]
            exact this
          clear HX HG HZ HE c0 c1 c2 f1 f2
          have j0 : (w5.alloc (.cells #[] 5)).cell? ⟨b, 0, none⟩ = some (.slice (some ⟨g, 0, none⟩) B.length c) := by rw [World.cell?_alloc_past _ _ _ hbl]; exact k0
          have j1 : (w5.alloc (.cells #[] 5)).cell? ⟨b, 1, none⟩ = some (.int .i64 ((place : Int) + (sz : Int) + (n : Int))) := by rw [World.cell?_alloc_past _ _ _ hbl]; exact k1
          have hcs : place + sz ≤ c := by omega
          have hcn : place + sz + n ≤ c := by omega
          have hmn : place + sz + n ≤ 140737488355328 := by omega
          have hpn : place + sz + n ≤ B.length := by omega
          clear hm hl2 hsz' hsz2 hlen hcap hle her hn'
          obtain ⟨o, hsl, HN2⟩ : ∃ o, (∀ w, (Instr.slice 40 (.slice (some ⟨g, 0, none⟩) B.length c) (some (.int .i64 ((place : Int) + (sz : Int)))) (some (.int .i64 ((place : Int) + (sz : Int) + (n : Int)))) none).run Try.prog w = .ok (.slice (some ⟨g, o, none⟩) n (c - (place + sz))) w) ∧ Hid (∀ j u, (cellsB ((B.drop (place + sz)).take n))[j]? = some u → (w5.alloc (.cells #[] 5)).drew.cell? ((⟨g, o, none⟩ : Addr).add j) = some u) := by
            by_cases hcc : c = place + sz
            · have hn0 : n = 0 := by omega
              subst hn0
              refine ⟨0, fun w => ?_, fun j u hu => by simp [cellsB] at hu⟩
              exact cut2_run_end g (place + sz) 0 c B.length _ _ (by omega) (by omega) (by omega) hcc w
            · exact ⟨place + sz, fun w => cut2_run g (place + sz) n c B.length _ _ (by omega) (by omega) (by omega) hcc w, HN.out⟩
          clear HN
          have HL : Hid ((((B.drop place).drop sz).take n).length = n) := by rw [List.length_take, List.length_drop, List.length_drop, Nat.min_eq_left (by omega)]; exact hid rfl
          have HD : Hid (B.drop (place + sz) = (B.drop place).drop sz) := by rw [List.drop_drop]; exact hid rfl
          rw [HD.out] at HN2
          clear HD
          generalize ((B.drop place).drop sz).take n = l at *
          clear e5
          go_region_law (refine step_append_own (by rfl) (.tmp 68) (.tmp 78) 40 (by rfl) w.heap.size 5 i0 (.int .u8 0) 1 1 Try.underlying40 hi hz0 hz1 hz2 rfl (by decide) _ 0 [] (by rfl) h0 ⟨g, o, none⟩ n (c - (place + sz)) (cellsB l) (by rfl) (by rw [cellsB_length, HL.out]; omega) HN2.out (cellsB_one _) (by unfold maxLen; omega) (by omega) (by simp; omega) ?_; intro ao' cap' w' ho hg'; have RR := hid (xbytes_fin R.out hs5 ho hg'); clear ho hg')
          all_goals go_wp2
          all_goals go_ret
          all_goals exact ⟨_, rfl, by rw [F.out, HL.out]; exact RR.out.1, by rw [F.out]; exact RR.out.2⟩
    · have F : Hid (runR (B.drop place) most = ([], sz, (er : Int))) := by rw [HE.out]; simp [hz, Hid]
      have hb : ((er : Int) == 0) = false := by simp; omega
      have hb' : ((er : Int) != 0) = true := by simp; omega
      have hz' : (er : Int) ≠ 0 := by omega
      have HZ' := hid hz'
      clear hz hz' k1
      go_wp2
      go_region
      go_wp2
      go_ret
      rw [F.out]
      exact ⟨_, rfl, owns_none _ _, HX.out.bad sz (q + 1) er HZ'.out⟩
  · have hb : (err != 0) = true := by simpa using he
    have hn := h.nil he
    subst hn
    have F : Hid (runR [] most = ([], 0, 10)) := by simp [runR, numR, look, Hid]
    have R := hid (h.dead he 0 0 10 (by omega))
    clear h he
    go_enter Try.func80, Try.ntmps80
    go_wp2
    go_ret
    rw [F.out]
    exact ⟨_, rfl, owns_none _ _, R.out⟩

set_option maxHeartbeats 800000 in
set_option maxRecDepth 1000000 in
theorem xText_any {w : World} {b : Nat} {v : Value} {B rs : List UInt8} {place : Nat} {err : Int} (h : XRd w b v B rs place err) (hlen : B.length ≤ 140737488355328) (most : Int) :
    Calls Try.prog 74 #[.pointer (some ⟨b, 0, none⟩), .int .i64 most] w fun e w' => e = .returned (.string (strB (runR rs most).1)) ∧ XAft w w' b v B rs place err (runR rs most).2 := by
  have HC := hid (xBytes_any h hlen most)
  clear h
  go_enter Try.func74, Try.ntmps74
  go_wp2_with fail
  refine Calls.mono HC.out ?_
  rintro e w' ⟨s, rfl, h1, h2⟩
  have hcv := conv_string (Reads.of_owns h1)
  obtain ⟨ao, c, hf⟩ := owns_form h1
  subst hf
  have H2 := hid h2
  clear h1 h2 HC
  go_wp2
  go_ret
  exact ⟨rfl, H2.out⟩

end Go.Proofs.Ytagdpfghooogfaa
